"""Separating lists: requests that tell two chains apart by what is fetched."""

from shelfdoors.errors import EntriesDiffer
from shelfdoors.normal import are_alike, normal_chain
from shelfdoors.probes import probe
from shelfdoors.runs import Run


def separating(one, other):
    """Return a separating list of two chains, or None if they are alike."""
    if are_alike(one, other):
        return None
    rows = normal_chain(one).segments
    others = normal_chain(other).segments
    # The last segment that differs, as both chains then hold the same behind it.
    entry = max([segment for segment, row in enumerate(rows) if row != others[segment]])
    mine, theirs = rows[entry], others[entry]
    greatest = max([capacity for capacity in mine + theirs if (capacity in mine) != (capacity in theirs)])
    higher = sorted([capacity for capacity in mine if capacity > greatest], reverse=True)
    later = [capacity for row in rows[entry + 1:] for capacity in row]
    return probe(entry, higher, greatest, max(later, default=0))


def is_separating(one, other, requests):
    """Tell whether a list of requests is a separating list of two chains."""
    if one.entries != other.entries:
        raise EntriesDiffer()
    fetched = [result is None for result in Run(one).request_all(requests)]
    others = [result is None for result in Run(other).request_all(requests)]
    return len(fetched) > 0 and fetched[:-1] == others[:-1] and fetched[-1] != others[-1]
