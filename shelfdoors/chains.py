"""Chains: rows of levels, in segments with an entry in front of each."""

from shelfdoors.checks import is_between
from shelfdoors.errors import InvalidChain, InvalidEntry, InvalidText, NoLevel


class Chain:
    """A chain of 1 to 4 segments; a chain is never changed."""

    MAX_SEGMENTS = 4
    MAX_LEVELS = 12
    MAX_CAPACITY = 12

    def __init__(self, *segments):
        rows = tuple([tuple(row) for row in segments])
        _check_rows(rows)
        self._rows = rows

    @classmethod
    def read(cls, text):
        """Return the chain of a text; raise InvalidText for any other text."""
        rows = [_read_row(part) for part in text.split(" | ")]
        if len(rows) > Chain.MAX_SEGMENTS:
            raise InvalidText()
        return Chain(*rows)

    @staticmethod
    def plain(*capacities):
        """Return the chain with one segment."""
        return Chain(capacities)

    @property
    def segments(self):
        """The tuple of the segments, each a tuple of capacities."""
        return self._rows

    @property
    def entries(self):
        """The number of entries."""
        return len(self._rows)

    def __len__(self):
        return len(self.behind(0))

    def __eq__(self, other):
        return isinstance(other, Chain) and self._rows == other._rows

    def __str__(self):
        return " | ".join([_row_text(row) for row in self._rows])

    def __repr__(self):
        return f"Chain({self})"

    def __getitem__(self, at):
        if not is_between(at, 0, len(self._rows) - 1):
            raise InvalidEntry(at)
        return self._rows[at]

    def __contains__(self, level):
        if not isinstance(level, (tuple, list)) or len(level) != 2:
            return False
        segment, at = level
        if not is_between(segment, 0, len(self._rows) - 1):
            return False
        return is_between(at, 0, len(self._rows[segment]) - 1)

    # Without this, Python would iterate by the indexes 0, 1, .. up to an IndexError, which never comes.
    def __iter__(self):
        raise TypeError("a chain cannot be iterated over")

    def __add__(self, other):
        if not isinstance(other, Chain):
            return NotImplemented
        rows = self._rows + other._rows
        return Chain(*rows)

    def __mul__(self, other):
        if not isinstance(other, Chain):
            return NotImplemented
        joined = self._rows[-1] + other._rows[0]
        rows = self._rows[:-1] + (joined,) + other._rows[1:]
        return Chain(*rows)

    def behind(self, entry):
        """Return the list of the levels behind an entry."""
        if not is_between(entry, 0, len(self._rows) - 1):
            raise InvalidEntry(entry)
        return [
            (segment, at)
            for segment in range(entry, len(self._rows))
            for at in range(len(self._rows[segment]))
        ]

    def without_level(self, level):
        """Return the chain without a level."""
        if level not in self:
            raise NoLevel(level)
        segment, at = level
        row = self._rows[segment]
        rows = self._rows[:segment] + (row[:at] + row[at + 1:],) + self._rows[segment + 1:]
        return Chain(*rows)

    def without_entry(self, entry):
        """Return the chain without an entry, whose segment is joined to the one before."""
        if not is_between(entry, 1, len(self._rows) - 1):
            raise InvalidEntry(entry)
        joined = self._rows[entry - 1] + self._rows[entry]
        rows = self._rows[:entry - 1] + (joined,) + self._rows[entry + 1:]
        return Chain(*rows)

    def with_entry(self, level):
        """Return the chain with a new entry in front of a level."""
        if level not in self:
            raise NoLevel(level)
        segment, at = level
        row = self._rows[segment]
        rows = self._rows[:segment] + (row[:at], row[at:]) + self._rows[segment + 1:]
        return Chain(*rows)


def _check_rows(rows):
    """Raise InvalidChain if no chain has these segments."""
    if not 1 <= len(rows) <= Chain.MAX_SEGMENTS:
        raise InvalidChain(-1)
    for segment, row in enumerate(rows):
        if len(row) > Chain.MAX_LEVELS:
            raise InvalidChain(segment)
        if not all([is_between(capacity, 1, Chain.MAX_CAPACITY) for capacity in row]):
            raise InvalidChain(segment)


def _row_text(row):
    """Return the text of a segment."""
    if len(row) == 0:
        return "-"
    return " ".join([str(capacity) for capacity in row])


def _read_row(text):
    """Return the segment of a text; raise InvalidText for any other text."""
    if text == "-":
        return ()
    row = tuple([_read_capacity(word) for word in text.split(" ")])
    if len(row) > Chain.MAX_LEVELS:
        raise InvalidText()
    return row


def _read_capacity(word):
    """Return the capacity that a word stands for; raise InvalidText for any other word."""
    # int would also read leading zeros, signs and digits of other alphabets.
    for capacity in range(1, Chain.MAX_CAPACITY + 1):
        if word == str(capacity):
            return capacity
    raise InvalidText()
