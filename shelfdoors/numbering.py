"""The numbers of normal chains, read from the codes of their segments as from digits."""

from shelfdoors.chains import Chain
from shelfdoors.checks import check_bound, is_between
from shelfdoors.errors import InvalidChain, InvalidNumber
from shelfdoors.normal import is_normal


def count_normal(entries, *, most=12):
    """Return how many normal chains there are with capacities up to most."""
    if not is_between(entries, 1, Chain.MAX_SEGMENTS):
        raise InvalidChain(-1)
    check_bound(most, 1, Chain.MAX_CAPACITY)
    count = 1
    for _ in range(entries):
        count = count * _base(most)
    return count


def number_of(chain, *, most=12):
    """Return the number of a normal chain."""
    check_bound(most, 1, Chain.MAX_CAPACITY)
    number = 0
    for segment, row in enumerate(chain.segments):
        if not is_normal(Chain(row)) or not all([capacity <= most for capacity in row]):
            raise InvalidChain(segment)
        number = number * _base(most) + _code(row, most)
    return number


def chain_at(number, entries, *, most=12):
    """Return the normal chain with a number."""
    count = count_normal(entries, most=most)
    if not is_between(number, 0, count - 1):
        raise InvalidNumber(number)
    rows = []
    rest = number
    for _ in range(entries):
        # The last digit comes off first, and belongs to the last segment.
        rest, code = divmod(rest, _base(most))
        rows.insert(0, _row_of(code, most))
    return Chain(*rows)


def _base(most):
    """Return how many codes there are."""
    return _code_of_one(most) + 1


def _code_of_one(most):
    """Return the code of the segment with the single capacity 1, which is the greatest code."""
    return 1 << (most - 1)


def _code(row, most):
    """Return the code of a normal segment."""
    if row == (1,):
        return _code_of_one(most)
    return sum([1 << (capacity - 2) for capacity in row])


def _row_of(code, most):
    """Return the normal segment with a code."""
    if code == _code_of_one(most):
        return (1,)
    return tuple([capacity for capacity in range(2, most + 1) if (code >> (capacity - 2)) & 1 == 1])
