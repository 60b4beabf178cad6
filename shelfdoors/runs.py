"""Runs: chains with the items that their levels hold, and with a log of the requests."""

from shelfdoors.checks import is_item
from shelfdoors.contents import after_request, check_request, checked_contents, empty_contents
from shelfdoors.errors import InvalidItem, NotRemovable, NothingLeft
from shelfdoors.normal import is_covered


class Run:
    """A run of a chain, with steps that can be undone and redone."""

    def __init__(self, chain):
        self._chain = chain
        self._contents = empty_contents(chain)
        self._log = []
        self._done = []
        self._undone = []

    @classmethod
    def resume(cls, chain, contents):
        """Return a run with these contents, without requests."""
        run = cls(chain)
        run._contents = checked_contents(chain, contents)
        return run

    @property
    def chain(self):
        """The chain at present."""
        return self._chain

    @property
    def contents(self):
        """The contents at present."""
        return self._contents

    @property
    def fetches(self):
        """The number of requests that were fetched."""
        return len([row for row in self._log if row[2] is None])

    @property
    def hits(self):
        """The number of requests that were hits."""
        return len([row for row in self._log if row[2] is not None])

    def __len__(self):
        return len(self._log)

    def __eq__(self, other):
        return isinstance(other, Run) and self._chain == other._chain and self._contents == other._contents

    def __repr__(self):
        return f"Run({self._chain}, {len(self._log)} requests)"

    def request(self, entry, item):
        """Make a request; return the level that is hit, or None if the item is fetched."""
        return self.request_all([(entry, item)])[0]

    def request_all(self, requests):
        """Make all requests as one step, or none if one is invalid; return the list of the results."""
        contents, rows = self._rows_of(requests)
        if len(rows) > 0:
            self._make_step(self._chain, contents, rows)
        return [row[2] for row in rows]

    def preview(self, requests):
        """Return what request_all would return."""
        _, rows = self._rows_of(requests)
        return [row[2] for row in rows]

    def holders(self, item):
        """Return the list of the levels that hold an item."""
        if not is_item(item):
            raise InvalidItem(item)
        return [(segment, at) for segment, at in self._chain.behind(0) if item in self._contents[segment][at]]

    def log(self):
        """Return the list of the tuples (entry, item, result) of all requests."""
        return list(self._log)

    def remove_level(self, level):
        """Remove a covered level as one step."""
        if not is_covered(self._chain, level):
            raise NotRemovable(level)
        segment, at = level
        row = self._contents[segment]
        kept = row[:at] + row[at + 1:]
        contents = self._contents[:segment] + (kept,) + self._contents[segment + 1:]
        self._make_step(self._chain.without_level(level), contents, ())

    def undo(self):
        """Undo the last step."""
        if len(self._done) == 0:
            raise NothingLeft()
        before, rows, after = self._done.pop()
        self._undone.append((before, rows, after))
        self._chain, self._contents = before
        del self._log[len(self._log) - len(rows):]

    def redo(self):
        """Redo the step that was undone last."""
        if len(self._undone) == 0:
            raise NothingLeft()
        before, rows, after = self._undone.pop()
        self._done.append((before, rows, after))
        self._chain, self._contents = after
        self._log.extend(rows)

    def history(self):
        """Return the pair of the numbers of steps that can be undone and redone."""
        return (len(self._done), len(self._undone))

    def clone(self):
        """Return an independent run with the same state, log and steps."""
        run = Run(self._chain)
        run._take_state(self)
        return run

    def _take_state(self, other):
        """Become as another run is."""
        self._chain = other._chain
        self._contents = other._contents
        self._log = list(other._log)
        self._done = list(other._done)
        self._undone = list(other._undone)

    def _rows_of(self, requests):
        """Return the contents behind the requests, and their rows of the log; change nothing."""
        contents = self._contents
        rows = []
        for entry, item in requests:
            check_request(self._chain, entry, item)
            contents, result = after_request(self._chain, contents, entry, item)
            rows.append((entry, item, result))
        return contents, tuple(rows)

    def _make_step(self, chain, contents, rows):
        """Go on to a chain and its contents, with further rows of the log."""
        self._done.append(((self._chain, self._contents), rows, (chain, contents)))
        self._undone = []
        self._chain = chain
        self._contents = contents
        self._log.extend(rows)


class TracedRun(Run):
    """A run that also tells which items were fetched."""

    @classmethod
    def resume(cls, chain, contents):
        """Return a traced run with these contents, without requests."""
        run = cls(chain)
        run._contents = checked_contents(chain, contents)
        return run

    def fetched(self):
        """Return the list of the items that were fetched, in order."""
        return [row[1] for row in self._log if row[2] is None]

    def clone(self):
        """Return an independent traced run with the same state, log and steps."""
        run = TracedRun(self._chain)
        run._take_state(self)
        return run
