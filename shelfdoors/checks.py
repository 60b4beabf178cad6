"""What several files ask of a value."""


def is_between(value, low, high):
    """Tell whether a value is an integer from low to high."""
    # True and False are integers for Python, but not for the package.
    return isinstance(value, int) and not isinstance(value, bool) and low <= value <= high
