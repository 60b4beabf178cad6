"""The contents of chains: what a request leaves in the levels, and which contents fit a chain.

Contents are tuples throughout, so that they can be kept and compared without a copy.
"""

from shelfdoors.checks import ANONYMOUS, is_between, is_item_or_anonymous
from shelfdoors.errors import InvalidContents, InvalidEntry, InvalidItem


def empty_contents(chain):
    """Return the contents of a chain whose levels hold no items."""
    return tuple([tuple([() for _ in row]) for row in chain.segments])


def check_request(chain, entry, item):
    """Raise the error of a request that is invalid."""
    if not is_between(entry, 0, chain.entries - 1):
        raise InvalidEntry(entry)
    if not is_item_or_anonymous(item):
        raise InvalidItem(item)


def after_request(chain, contents, entry, item):
    """Return the contents behind a valid request, and its result."""
    rows = list(contents)
    for segment in range(entry, chain.entries):
        levels = list(contents[segment])
        for at, held in enumerate(contents[segment]):
            # What an anonymous item leaves in a level is no hit for the next one.
            if item != ANONYMOUS and item in held:
                rows[segment] = tuple(levels)
                return tuple(rows), (segment, at)
            levels[at] = _inserted(held, item, chain[segment][at])
        rows[segment] = tuple(levels)
    return tuple(rows), None


def checked_contents(chain, contents):
    """Return a copy of contents as tuples; raise InvalidContents if they do not fit a chain."""
    _check_length(contents, chain.entries)
    return tuple([_checked_row(row, held) for row, held in zip(chain.segments, contents)])


def are_items(capacity, items):
    """Tell whether a level of this capacity can hold a list of items."""
    if len(items) > capacity or not all([is_item_or_anonymous(item) for item in items]):
        return False
    named = [item for item in items if item != ANONYMOUS]
    return len(set(named)) == len(named)


def _inserted(held, item, capacity):
    """Return the items of a level behind the insertion of an item."""
    if len(held) < capacity:
        return held + (item,)
    return held[1:] + (item,)


def _checked_row(row, held):
    """Return a copy of the contents of a segment; raise InvalidContents if they do not fit."""
    _check_length(held, len(row))
    return tuple([_checked_items(capacity, items) for capacity, items in zip(row, held)])


def _checked_items(capacity, items):
    """Return a copy of the items of a level; raise InvalidContents if they do not fit."""
    if not isinstance(items, (list, tuple)) or not are_items(capacity, items):
        raise InvalidContents()
    return tuple(items)


def _check_length(value, many):
    """Raise InvalidContents if a value is not a list of so many."""
    if not isinstance(value, (list, tuple)) or len(value) != many:
        raise InvalidContents()
