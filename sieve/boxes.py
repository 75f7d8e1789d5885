"""Boxes: tuples of stretches; a point lies in a box where each of its numbers lies in its stretch."""

from sieve.stretches import holds, meet, width


def has(box, point):
    """Whether the point lies in the box."""
    return all([holds(stretch, number) for stretch, number in zip(box, point)])


def within(box, other):
    """Whether all points of the box lie in the other one."""
    # A box has no empty stretch, so one place alone that reaches out has a point outside.
    return all([meet(stretch, beside) == stretch for stretch, beside in zip(box, other)])


def common(box, other):
    """The box that two boxes have in common, or None."""
    stretches = []
    for stretch, beside in zip(box, other):
        both = meet(stretch, beside)
        if both is None:
            return None
        stretches.append(both)
    return tuple(stretches)


def count_of(box):
    """How many points lie in the box."""
    total = 1
    for stretch in box:
        total = total * width(stretch)
    return total


def corner(box):
    """The point of all lows of the box."""
    return tuple([stretch[0] for stretch in box])


def outside(stretch, inner):
    """What the stretch has below and above an inner one, the lower first."""
    sides = []
    if stretch[0] < inner[0]:
        sides.append((stretch[0], inner[0] - 1))
    if inner[1] < stretch[1]:
        sides.append((inner[1] + 1, stretch[1]))
    return sides


def rests(box, other):
    """What is left of the box beside the other one: boxes that do not meet, place by place."""
    both = common(box, other)
    if both is None:
        return [box]
    told = []
    for place, stretch in enumerate(box):
        for side in outside(stretch, both[place]):
            told.append(both[:place] + (side,) + box[place + 1:])
    return told


def left(box, others):
    """What is left of the box beside all boxes of the list, taken one behind the other."""
    pieces = [box]
    for other in others:
        smaller = []
        for piece in pieces:
            smaller.extend(rests(piece, other))
        pieces = smaller
    return pieces


def fills(others, box):
    """Whether each point of the box lies in one of the list's boxes."""
    return left(box, others) == []
