"""Normal chains: which levels can be removed, and what is left then."""

from shelfdoors.chains import Chain
from shelfdoors.errors import EntriesDiffer, NoLevel


def is_covered(chain, level):
    """Tell whether an earlier level of its segment has at least the capacity of a level."""
    if level not in chain:
        raise NoLevel(level)
    segment, at = level
    row = chain[segment]
    return any([capacity >= row[at] for capacity in row[:at]])


def is_idle(chain, level):
    """Tell whether a level of capacity 1 is the first but not the last one of its segment."""
    if level not in chain:
        raise NoLevel(level)
    segment, at = level
    row = chain[segment]
    return at == 0 and row[at] == 1 and len(row) > 1


def removable(chain):
    """Yield the removable levels, ascending."""
    for level in chain.behind(0):
        if _is_removable(chain, level):
            yield level


def is_normal(chain):
    """Tell whether a chain has no removable levels."""
    return len(list(removable(chain))) == 0


def normal_chain(chain):
    """Return the normal chain of a chain."""
    rows = [_normal_row(row) for row in chain.segments]
    return Chain(*rows)


def reduction(chain):
    """Return a list of the removable levels to remove, one after another, until a chain is normal."""
    steps = []
    rest = chain
    found = list(removable(rest))
    while len(found) > 0:
        steps.append(found[0])
        rest = rest.without_level(found[0])
        found = list(removable(rest))
    return steps


def is_reduction(chain, steps):
    """Tell whether a list of pairs of integers is a reduction of a chain."""
    rest = chain
    for step in steps:
        if step not in rest or not _is_removable(rest, step):
            return False
        rest = rest.without_level(step)
    return is_normal(rest)


def are_alike(one, other):
    """Tell whether two chains have the same normal chain."""
    if one.entries != other.entries:
        raise EntriesDiffer()
    return normal_chain(one) == normal_chain(other)


def _is_removable(chain, level):
    """Tell whether a level of a chain is covered or idle."""
    return is_covered(chain, level) or is_idle(chain, level)


def _normal_row(row):
    """Return the list of the capacities that are left of a segment."""
    kept = []
    for capacity in row:
        # The last one kept is the greatest so far, so it alone decides what is covered.
        if len(kept) == 0 or capacity > kept[-1]:
            kept.append(capacity)
    # Behind the loop, since a level of capacity 1 is not idle if all later ones were covered.
    if len(kept) > 1 and kept[0] == 1:
        del kept[0]
    return kept
