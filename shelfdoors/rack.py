"""Racks: named runs that are changed by commands, in steps that can be undone and redone."""

from shelfdoors.chains import Chain
from shelfdoors.checks import check_bound, is_name
from shelfdoors.contents import after_request, check_request, empty_contents
from shelfdoors.errors import InvalidCommand, InvalidName, NameTaken, NothingLeft, RackFull, UnknownName
from shelfdoors.normal import is_covered
from shelfdoors.runs import Run

# The greatest limit of a rack.
MAX_LIMIT = 12

# The number of items of the commands with each word.
_LENGTHS = {"open": 3, "close": 2, "ask": 4, "trim": 2, "rename": 3}


class Rack:
    """Named runs, at most a limit of them."""

    def __init__(self, *, limit=6):
        check_bound(limit, 1, MAX_LIMIT)
        self._limit = limit
        # By name the pair of the chain and the contents, and the number of fetches. Neither dict is ever
        # changed, only replaced, so that steps and clones can share them.
        self._runs = {}
        self._counts = {}
        self._done = []
        self._undone = []

    @property
    def limit(self):
        """The greatest number of runs; it can be assigned."""
        return self._limit

    @limit.setter
    def limit(self, value):
        check_bound(value, 1, MAX_LIMIT)
        if len(self._runs) > value:
            raise RackFull(value)
        self._limit = value

    @property
    def total(self):
        """The sum of the fetches of all runs at present."""
        return sum(list(self._counts.values()))

    def __len__(self):
        return len(self._runs)

    def __eq__(self, other):
        return isinstance(other, Rack) and self._limit == other._limit and self._runs == other._runs

    def __repr__(self):
        return f"Rack({len(self._runs)} runs)"

    def set_limit(self, limit):
        """Assign the limit."""
        self.limit = limit

    def apply(self, command):
        """Apply a command as one step; return its result."""
        return self.apply_all(command)[0]

    def apply_all(self, *commands):
        """Apply commands as one step, or none if one raises an error; return the list of the results."""
        for command in commands:
            _check_command(command)
        draft = Draft(self._runs, self._counts, self._limit)
        results = [draft.apply(command) for command in commands]
        before = (self._runs, self._counts)
        self._runs, self._counts = draft.state()
        self._done.append((before, (self._runs, self._counts)))
        self._undone = []
        return results

    def undo(self):
        """Undo the last step."""
        if len(self._done) == 0:
            raise NothingLeft()
        before, after = self._done[-1]
        self._restore(before)
        self._done.pop()
        self._undone.append((before, after))

    def redo(self):
        """Redo the step that was undone last."""
        if len(self._undone) == 0:
            raise NothingLeft()
        before, after = self._undone[-1]
        self._restore(after)
        self._undone.pop()
        self._done.append((before, after))

    def history(self):
        """Return the pair of the numbers of steps that can be undone and redone."""
        return (len(self._done), len(self._undone))

    def names(self):
        """Return the ascending list of the names."""
        return sorted(self._runs)

    def run_of(self, name):
        """Return a new run with the chain and the contents of a run, without requests."""
        chain, contents = _find(self._runs, name)
        return Run.resume(chain, contents)

    def fetches_of(self, name):
        """Return the number of the fetches of a run since it was opened or read."""
        return _find(self._counts, name)

    def clone(self):
        """Return an independent rack with the same state, steps and limit."""
        rack = Rack(limit=self._limit)
        rack._runs = self._runs
        rack._counts = self._counts
        rack._done = list(self._done)
        rack._undone = list(self._undone)
        return rack

    def _restore(self, state):
        """Take up the runs of another time; raise RackFull if the limit has become too small for them."""
        runs, counts = state
        if len(runs) > self._limit:
            raise RackFull(self._limit)
        self._runs = runs
        self._counts = counts


class Draft:
    """The runs of a rack on their way to the next step."""

    def __init__(self, runs, counts, room):
        self._runs = dict(runs)
        self._counts = dict(counts)
        self._room = room

    def state(self):
        """Return the pair of the runs and their fetches."""
        return (self._runs, self._counts)

    def apply(self, command):
        """Apply a command of the right length; return its result."""
        match command:
            case ("open", name, text):
                return self._add(name, text)
            case ("close", name):
                return self._drop(name)
            case ("ask", name, entry, item):
                return self._ask(name, entry, item)
            case ("trim", name):
                return self._trim(name)
            case ("rename", name, other):
                return self._rename(name, other)

    def _add(self, name, text):
        """Add an empty run of the chain with a text."""
        self._check_new(name)
        chain = Chain.read(text)
        if len(self._runs) >= self._room:
            raise RackFull(self._room)
        self._runs[name] = (chain, empty_contents(chain))
        self._counts[name] = 0

    def _drop(self, name):
        """Remove a run."""
        _find(self._runs, name)
        del self._runs[name]
        del self._counts[name]

    def _ask(self, name, entry, item):
        """Request an item of a run; return the result."""
        chain, contents = _find(self._runs, name)
        check_request(chain, entry, item)
        contents, result = after_request(chain, contents, entry, item)
        self._runs[name] = (chain, contents)
        if result is None:
            self._counts[name] += 1
        return result

    def _trim(self, name):
        """Remove all covered levels of a run; return how many."""
        chain, contents = _find(self._runs, name)
        run = Run.resume(chain, contents)
        covered = [level for level in chain.behind(0) if is_covered(chain, level)]
        # From the last one on, as each removed level changes the numbers of those behind it.
        for level in sorted(covered, reverse=True):
            run.remove_level(level)
        self._runs[name] = (run.chain, run.contents)
        return len(covered)

    def _rename(self, name, other):
        """Give a run another name."""
        run = _find(self._runs, name)
        count = self._counts[name]
        self._check_new(other)
        self._drop(name)
        self._runs[other] = run
        self._counts[other] = count

    def _check_new(self, name):
        """Raise an error if a run cannot get this name."""
        if not is_name(name):
            raise InvalidName(name)
        if name in self._runs:
            raise NameTaken(name)


def filled_rack(limit, runs):
    """Return a rack without steps; its runs are a dict from names to pairs of a chain and contents."""
    rack = Rack(limit=limit)
    rack._runs = dict(runs)
    rack._counts = {name: 0 for name in runs}
    return rack


def _check_command(command):
    """Raise InvalidCommand if a tuple is not a command."""
    if len(command) == 0:
        raise InvalidCommand(None)
    word = command[0]
    if not isinstance(word, str) or _LENGTHS.get(word) != len(command):
        raise InvalidCommand(word)


def _find(table, name):
    """Return what a table has for a name of a run."""
    # What is no name may even be no key.
    if not is_name(name) or name not in table:
        raise UnknownName(name)
    return table[name]
