"""What several files ask of a value."""

from shelfdoors.errors import InvalidBound

# Requested instead of an item, and written in contents for an item that is requested only once.
ANONYMOUS = -1
MAX_ITEM = 9999
# How often something can be repeated at most.
MAX_REPEATS = 10 ** 30

_MAX_LETTERS = 8
_MAX_DIGITS = 40


def is_between(value, low, high):
    """Tell whether a value is an integer from low to high."""
    # True and False are integers for Python, but not for the package.
    return isinstance(value, int) and not isinstance(value, bool) and low <= value <= high


def check_bound(value, low, high):
    """Raise InvalidBound if a value is not an integer from low to high."""
    if not is_between(value, low, high):
        raise InvalidBound(value)


def is_item(value):
    """Tell whether a value is an item, so not an anonymous one."""
    return is_between(value, 0, MAX_ITEM)


def is_item_or_anonymous(value):
    """Tell whether a value can be requested, or stand in contents."""
    return is_between(value, ANONYMOUS, MAX_ITEM)


def is_name(value):
    """Tell whether a value is the name of a part or of a run."""
    if not isinstance(value, str) or not 1 <= len(value) <= _MAX_LETTERS:
        return False
    # The letters of other alphabets are letters for Python, too.
    return value.isascii() and value.isalpha() and value.islower()


def read_number(word):
    """Return the number that a word of a text stands for, or None for any other word."""
    if word == "-1":
        return -1
    # Python reads no integers of thousands of digits, and none of the package has more than these.
    if len(word) > _MAX_DIGITS or not (word.isascii() and word.isdigit()):
        return None
    if word != "0" and word.startswith("0"):
        return None
    return int(word)
