"""Stretches: tuples (low, high) of whole numbers, both ends and all between."""


def holds(stretch, number):
    """Whether the number lies in the stretch."""
    return stretch[0] <= number and number <= stretch[1]


def meet(one, other):
    """The stretch that two stretches have in common, or None."""
    low = max(one[0], other[0])
    high = min(one[1], other[1])
    if low > high:
        return None
    return (low, high)


def width(stretch):
    """How many numbers lie in the stretch."""
    return stretch[1] - stretch[0] + 1
