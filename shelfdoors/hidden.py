"""Hidden chains, and how to identify them by what they fetch."""

from shelfdoors.chains import Chain
from shelfdoors.checks import ANONYMOUS, check_bound
from shelfdoors.contents import after_request, check_request, empty_contents
from shelfdoors.probes import probe


class Hidden:
    """A chain that tells whether a request is fetched, and nothing else."""

    def __init__(self, chain, *, warm=()):
        self._chain = chain
        self._contents = empty_contents(chain)
        self._asked = 0
        for entry, item in warm:
            self._make(entry, item)

    @property
    def entries(self):
        """The number of entries."""
        return self._chain.entries

    @property
    def asked(self):
        """The number of calls of ask that raised no error."""
        return self._asked

    def ask(self, entry, item):
        """Make a request; return whether the item is fetched."""
        result = self._make(entry, item)
        self._asked += 1
        return result is None

    def _make(self, entry, item):
        """Make a request; return its result."""
        check_request(self._chain, entry, item)
        self._contents, result = after_request(self._chain, self._contents, entry, item)
        return result


def identify(hidden, *, most=12):
    """Return the normal chain of a hidden chain whose capacities are at most most."""
    check_bound(most, 1, Chain.MAX_CAPACITY)
    rows = [_identify_row(hidden, entry, most) for entry in range(hidden.entries)]
    return Chain(*rows)


def _identify_row(hidden, entry, most):
    """Return the list of the capacities of the normal segment behind an entry."""
    flush = most if entry + 1 < hidden.entries else 0
    found = []
    for capacity in range(most, 0, -1):
        # A normal segment has the capacity 1 only alone, and a probe could not tell it from the others.
        if capacity > 1 or len(found) == 0:
            # What the levels already hold could be hits of the probe.
            requests = [(entry, ANONYMOUS)] * most + probe(entry, found, capacity, flush)
            if not _last_is_fetched(hidden, requests):
                found.append(capacity)
    return sorted(found)


def _last_is_fetched(hidden, requests):
    """Make requests; return whether the item of the last one is fetched."""
    return [hidden.ask(entry, item) for entry, item in requests][-1]
