"""Point 9: which numbers lie in a stretch, what two have in common, how many numbers lie in one."""

import inspect
import unittest

from sieve.stretches import holds, meet, width

HUGE = 10 ** 59
GREATEST = 10 ** 100 - 1

# Each stretch with the count of its numbers.
WIDTHS = {
    (0, 0): 1,
    (5, 5): 1,
    (-7, -7): 1,
    (0, 1): 2,
    (-1, 0): 2,
    (0, 9): 10,
    (3, 11): 9,
    (-9, -2): 8,
    (-5, 5): 11,
    (-1, 1): 3,
    (0, 4294967295): 4294967296,
    (HUGE, HUGE): 1,
    (-HUGE, -HUGE): 1,
    (HUGE, HUGE + 6): 7,
    (-HUGE - 6, -HUGE): 7,
    (-HUGE, HUGE): 2 * 10 ** 59 + 1,
    (0, GREATEST): 10 ** 100,
    (-GREATEST, GREATEST): 2 * 10 ** 100 - 1,
}

# Two stretches and what they have in common.
MEETINGS = (
    # alike
    ((0, 0), (0, 0), (0, 0)),
    ((3, 9), (3, 9), (3, 9)),
    ((-9, -3), (-9, -3), (-9, -3)),
    ((-HUGE, HUGE), (-HUGE, HUGE), (-HUGE, HUGE)),
    # one number in common
    ((0, 4), (4, 9), (4, 4)),
    ((-4, 0), (0, 4), (0, 0)),
    ((-9, -4), (-4, 9), (-4, -4)),
    ((4, 4), (4, 9), (4, 4)),
    ((9, 9), (4, 9), (9, 9)),
    ((1, HUGE), (HUGE, HUGE + 5), (HUGE, HUGE)),
    # side by side
    ((0, 4), (5, 9), None),
    ((-4, -1), (0, 4), None),
    ((-9, -5), (-4, -1), None),
    ((4, 4), (5, 5), None),
    ((1, HUGE), (HUGE + 1, HUGE + 5), None),
    # some numbers in common
    ((0, 6), (4, 9), (4, 6)),
    ((-6, 2), (-2, 6), (-2, 2)),
    ((-9, -3), (-5, 0), (-5, -3)),
    ((-HUGE, HUGE), (HUGE - 3, HUGE + 3), (HUGE - 3, HUGE)),
    # one within the other
    ((0, 9), (3, 5), (3, 5)),
    ((0, 9), (7, 7), (7, 7)),
    ((-9, 9), (-3, 3), (-3, 3)),
    ((0, 9), (0, 5), (0, 5)),
    ((0, 9), (5, 9), (5, 9)),
    ((-HUGE, HUGE), (-1, 1), (-1, 1)),
    ((-GREATEST, GREATEST), (-HUGE, HUGE), (-HUGE, HUGE)),
    # far apart
    ((0, 4), (90, 99), None),
    ((-99, -90), (90, 99), None),
    ((-HUGE, -5), (5, HUGE), None),
    ((-GREATEST, -GREATEST), (GREATEST, GREATEST), None),
)


def small_stretches():
    return [(low, high) for low in range(-4, 5) for high in range(low, 5)]


class Holds(unittest.TestCase):
    def test_the_ends_and_one_amid(self):
        for stretch in WIDTHS:
            for number in (stretch[0], stretch[1], (stretch[0] + stretch[1]) // 2):
                self.assertIs(holds(stretch, number), True, (stretch, number))

    def test_one_beside_the_ends(self):
        for stretch in WIDTHS:
            for number in (stretch[0] - 1, stretch[1] + 1):
                self.assertIs(holds(stretch, number), False, (stretch, number))

    def test_far_beside(self):
        for number in (-GREATEST, -HUGE, -100, 100, HUGE, GREATEST):
            self.assertIs(holds((-9, 9), number), False, number)

    def test_a_number_and_the_same_below_nought(self):
        self.assertIs(holds((3, 5), -4), False)
        self.assertIs(holds((-5, -3), 4), False)
        self.assertIs(holds((-5, -3), -4), True)

    def test_all_small_ones(self):
        for stretch in small_stretches():
            for number in range(-6, 7):
                self.assertIs(holds(stretch, number), number in range(stretch[0], stretch[1] + 1), (stretch, number))


class Meet(unittest.TestCase):
    def test_each_asked_both_ways(self):
        for one, other, expected in MEETINGS:
            self.assertEqual(meet(one, other), expected, (one, other))
            self.assertEqual(meet(other, one), expected, (other, one))

    def test_all_small_ones(self):
        for one in small_stretches():
            for other in small_stretches():
                numbers = sorted(set(range(one[0], one[1] + 1)) & set(range(other[0], other[1] + 1)))
                expected = (numbers[0], numbers[-1]) if numbers else None
                self.assertEqual(meet(one, other), expected, (one, other))

    def test_kinds(self):
        for one, other, expected in MEETINGS:
            told = meet(one, other)
            if expected is None:
                self.assertIsNone(told)
            else:
                self.assertEqual([type(told), type(told[0]), type(told[1])], [tuple, int, int])


class Width(unittest.TestCase):
    def test_written_out(self):
        for stretch, count in WIDTHS.items():
            self.assertEqual(width(stretch), count, stretch)

    def test_all_small_ones(self):
        for stretch in small_stretches():
            self.assertEqual(width(stretch), len(range(stretch[0], stretch[1] + 1)), stretch)

    def test_kinds(self):
        for stretch in ((0, 0), (-1, -1), (0, 1), (-HUGE, HUGE)):
            self.assertIs(type(width(stretch)), int)


class Arguments(unittest.TestCase):
    def test_names(self):
        expected = {holds: ["stretch", "number"], meet: ["one", "other"], width: ["stretch"]}
        for function, names in expected.items():
            self.assertEqual(list(inspect.signature(function).parameters), names)


if __name__ == "__main__":
    unittest.main()
