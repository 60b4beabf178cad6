"""Consoles: racks that are used by lines of text."""

from shelfdoors.checks import read_number
from shelfdoors.errors import ChainError, NotFound
from shelfdoors.normal import normal_chain
from shelfdoors.rack import Rack

# The answer to a line that no console understands.
_INVALID = "invalid"
_MAX_NUMBER = 6


class Console:
    """Answers lines from a rack."""

    def __init__(self, *, rack=None):
        self._rack = Rack() if rack is None else rack
        self._said = []

    @property
    def said(self):
        """The list of the pairs (line, answer) of all lines."""
        return list(self._said)

    def rack(self):
        """Return the very rack."""
        return self._rack

    def answer(self, line):
        """Return the answer to a line."""
        told = self._tell(line.split(" "))
        self._said.append((line, told))
        return told

    def _tell(self, words):
        """Return the answer to the words of a line."""
        if "" in words:
            return _INVALID
        try:
            return _answer_to(self._rack, words)
        except (ChainError, NotFound) as error:
            return f"error {error.code}"


def _answer_to(rack, words):
    """Return the answer of a rack to words; raise the error of the call."""
    match words:
        case ["undo"]:
            rack.undo()
            return "ok"
        case ["redo"]:
            rack.redo()
            return "ok"
        case ["open", name, first, *rest]:
            rack.apply(("open", name, " ".join([first, *rest])))
            return "ok"
        case ["close", name]:
            rack.apply(("close", name))
            return "ok"
        case ["rename", name, other]:
            rack.apply(("rename", name, other))
            return "ok"
        case ["trim", name]:
            return str(rack.apply(("trim", name)))
        case ["ask", name, entry, item]:
            return _ask(rack, name, _read_short(entry), _read_short(item))
        case ["names"]:
            return _listed(rack.names())
        case ["chain", name]:
            return str(rack.run_of(name).chain)
        case ["normal", name]:
            return str(normal_chain(rack.run_of(name).chain))
        case ["fetches", name]:
            return str(rack.fetches_of(name))
        case ["holders", name, item]:
            return _holders(rack, name, _read_short(item))
    return _INVALID


def _ask(rack, name, entry, item):
    """Return the answer to a request; entry and item are None if they are no numbers."""
    if entry is None or item is None:
        return _INVALID
    level = rack.apply(("ask", name, entry, item))
    if level is None:
        return "fetched"
    return f"hit {level[0]} {level[1]}"


def _holders(rack, name, item):
    """Return the answer that tells the levels that hold an item, which is None if it is no number."""
    if item is None:
        return _INVALID
    levels = rack.run_of(name).holders(item)
    return _listed([f"{segment}:{at}" for segment, at in levels])


def _listed(words):
    """Return words with blanks between them, or a word for none of them."""
    if len(words) == 0:
        return "none"
    return " ".join(words)


def _read_short(word):
    """Return the number that a short word stands for, or None for any other word."""
    if len(word) > _MAX_NUMBER:
        return None
    return read_number(word)
