"""What several files ask of a value."""

# Requested instead of an item, and written in contents for an item that is requested only once.
ANONYMOUS = -1
MAX_ITEM = 9999


def is_between(value, low, high):
    """Tell whether a value is an integer from low to high."""
    # True and False are integers for Python, but not for the package.
    return isinstance(value, int) and not isinstance(value, bool) and low <= value <= high


def is_item(value):
    """Tell whether a value is an item, so not an anonymous one."""
    return is_between(value, 0, MAX_ITEM)


def is_item_or_anonymous(value):
    """Tell whether a value can be requested, or stand in contents."""
    return is_between(value, ANONYMOUS, MAX_ITEM)
