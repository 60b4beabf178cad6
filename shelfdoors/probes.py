"""Probes: requests whose last one tells whether a segment has a level of some capacity."""

from shelfdoors.checks import ANONYMOUS

# The only item that a probe requests by its number.
_ITEM = 0


def probe(entry, higher, capacity, flush):
    """Return the requests of a probe of the segment behind an entry.

    The last one is a hit if the segment of a normal chain has a level of at least a capacity besides the
    higher capacities, which are greater and descending; otherwise it is fetched. The levels behind the
    entry must hold no items but anonymous ones, and those of later segments have at most the capacity flush.
    """
    requests = []
    for many in [*higher, capacity]:
        # The level of this capacity alone holds the item at the end of its turn: a hit there inserts the
        # item into the lower levels, and then the higher one evicts it.
        requests.append((entry, _ITEM))
        requests.extend([(entry, ANONYMOUS)] * (many - 1))
    # A later segment would hide that this one does not hold the item.
    requests.extend([(entry + 1, ANONYMOUS)] * flush)
    requests.append((entry, _ITEM))
    return requests
