"""Points 10 to 12: boxes and points, what two boxes have in common, what is left of one beside others."""

import inspect
import itertools
import math
import random
import unittest

from sieve.boxes import common, corner, count_of, fills, has, left, rests, within

HUGE = 10 ** 59
EIGHT = ((0, 4), (-4, 0), (7, 7), (-3, 3), (HUGE, HUGE + 2), (-HUGE, HUGE), (1, 2), (0, 4294967295))
SIZES = range(1, 9)


def points_of(box):
    """Every point of a small box."""
    return list(itertools.product(*[range(low, high + 1) for low, high in box]))


def replaced(values, place, value):
    """The tuple with another value at one place."""
    return values[:place] + (value,) + values[place + 1:]


def small_boxes(source, size, count):
    """Boxes of so many stretches, amid the numbers from -3 to 3."""
    boxes = []
    for step in range(count):
        ends = [sorted(source.choices(range(-3, 4), k=2)) for place in range(size)]
        boxes.append(tuple((low, high) for low, high in ends))
    return boxes


def pairs_of_boxes():
    """Pairs of small boxes that stand to each other in many ways."""
    source = random.Random(12)
    pairs = []
    for size in (1, 2, 3, 4):
        boxes = small_boxes(source, size, 12)
        pairs += [(one, other) for one in boxes for other in boxes]
    return pairs


def cut(pieces, other):
    """The pieces, each cut into what it has outside the other box and what it has in common with it."""
    smaller = []
    for piece in pieces:
        both = common(piece, other)
        smaller += rests(piece, other) + ([] if both is None else [both])
    return smaller


class Has(unittest.TestCase):
    def test_the_ends_in_each_place(self):
        for size in SIZES:
            box = EIGHT[:size]
            lows = tuple(low for low, high in box)
            highs = tuple(high for low, high in box)
            self.assertIs(has(box, lows), True)
            self.assertIs(has(box, highs), True)
            for place in range(size):
                self.assertIs(has(box, replaced(lows, place, highs[place])), True)
                self.assertIs(has(box, replaced(highs, place, lows[place])), True)

    def test_one_off_in_each_place(self):
        for size in SIZES:
            box = EIGHT[:size]
            lows = tuple(low for low, high in box)
            highs = tuple(high for low, high in box)
            for place in range(size):
                for start in (lows, highs):
                    self.assertIs(has(box, replaced(start, place, lows[place] - 1)), False, (size, place))
                    self.assertIs(has(box, replaced(start, place, highs[place] + 1)), False, (size, place))

    def test_one_off_in_every_place(self):
        for size in SIZES:
            box = EIGHT[:size]
            self.assertIs(has(box, tuple(low - 1 for low, high in box)), False)
            self.assertIs(has(box, tuple(high + 1 for low, high in box)), False)

    def test_every_point_about_small_boxes(self):
        for box in small_boxes(random.Random(1), 2, 20) + small_boxes(random.Random(2), 3, 5):
            inside = points_of(box)
            for point in points_of(((-4, 4),) * len(box)):
                self.assertIs(has(box, point), point in inside, (box, point))


class Within(unittest.TestCase):
    def test_within_itself(self):
        for size in SIZES:
            self.assertIs(within(EIGHT[:size], EIGHT[:size]), True)

    def test_within_a_greater_one(self):
        for size in SIZES:
            box = EIGHT[:size]
            self.assertIs(within(box, tuple((low - 1, high + 1) for low, high in box)), True)
            for place in range(size):
                low, high = box[place]
                self.assertIs(within(box, replaced(box, place, (low - 1, high))), True)
                self.assertIs(within(box, replaced(box, place, (low, high + 1))), True)

    def test_not_within_a_smaller_one(self):
        for size in SIZES:
            box = EIGHT[:size]
            for place in range(size):
                low, high = box[place]
                self.assertIs(within(replaced(box, place, (low - 1, high)), box), False, (size, place))
                self.assertIs(within(replaced(box, place, (low, high + 1)), box), False, (size, place))
                self.assertIs(within(replaced(box, place, (low - 1, high + 1)), box), False, (size, place))

    def test_not_within_one_that_it_does_not_meet(self):
        for size in SIZES:
            box = EIGHT[:size]
            for place in range(size):
                high = box[place][1]
                self.assertIs(within(box, replaced(box, place, (high + 1, high + 9))), False)

    def test_where_all_points_do(self):
        for box, other in pairs_of_boxes():
            expected = set(points_of(box)) <= set(points_of(other))
            self.assertIs(within(box, other), expected, (box, other))


class Common(unittest.TestCase):
    def test_a_box_and_itself(self):
        for size in SIZES:
            self.assertEqual(common(EIGHT[:size], EIGHT[:size]), EIGHT[:size])

    def test_written_out(self):
        self.assertEqual(common(((0, 9),), ((4, 20),)), ((4, 9),))
        self.assertEqual(common(((0, 9), (-5, 5)), ((4, 20), (-9, -5))), ((4, 9), (-5, -5)))
        self.assertEqual(common(((0, 9), (0, 9), (0, 9)), ((3, 5), (9, 12), (0, 9))), ((3, 5), (9, 9), (0, 9)))
        self.assertEqual(common(((-HUGE, HUGE),), ((HUGE, HUGE + 1),)), ((HUGE, HUGE),))

    def test_nothing_in_common_in_one_place_alone(self):
        for size in SIZES:
            box = EIGHT[:size]
            for place in range(size):
                low, high = box[place]
                for stretch in ((high + 1, high + 1), (high + 1, high + 9), (low - 9, low - 1), (low - 1, low - 1)):
                    other = replaced(box, place, stretch)
                    self.assertIsNone(common(box, other), (size, place))
                    self.assertIsNone(common(other, box), (size, place))

    def test_nothing_in_common_in_any_place(self):
        self.assertIsNone(common(((0, 1), (0, 1)), ((2, 3), (2, 3))))

    def test_as_the_points_tell(self):
        for box, other in pairs_of_boxes():
            expected = set(points_of(box)) & set(points_of(other))
            told = common(box, other)
            if not expected:
                self.assertIsNone(told, (box, other))
            else:
                self.assertEqual(set(points_of(told)), expected, (box, other))

    def test_kinds(self):
        told = common(EIGHT, EIGHT)
        self.assertIs(type(told), tuple)
        for stretch in told:
            self.assertEqual([type(stretch), type(stretch[0]), type(stretch[1])], [tuple, int, int])


class CountAndCorner(unittest.TestCase):
    def test_one_point(self):
        for size in SIZES:
            self.assertEqual(count_of(((7, 7),) * size), 1)
            self.assertEqual(corner(((7, 7),) * size), (7,) * size)

    def test_written_out(self):
        self.assertEqual(count_of(((0, 4),)), 5)
        self.assertEqual(count_of(((0, 4), (-4, 0))), 25)
        self.assertEqual(count_of(((0, 1), (0, 2), (0, 4))), 30)
        self.assertEqual(corner(((0, 4), (-4, 0))), (0, -4))
        self.assertEqual(corner(EIGHT), (0, -4, 7, -3, HUGE, -HUGE, 1, 0))

    def test_the_product_of_all_sizes(self):
        sizes = [5, 5, 1, 7, 3, 2 * HUGE + 1, 2, 4294967296]
        for size in SIZES:
            self.assertEqual(count_of(EIGHT[:size]), math.prod(sizes[:size]))

    def test_huge_ones(self):
        stretch = (-(10 ** 100 - 1), 10 ** 100 - 1)
        self.assertEqual(count_of((stretch,) * 8), (2 * 10 ** 100 - 1) ** 8)
        self.assertEqual(corner((stretch,) * 8), (-(10 ** 100 - 1),) * 8)

    def test_as_the_points_tell(self):
        for size in (1, 2, 3, 4):
            for box in small_boxes(random.Random(size), size, 20):
                points = points_of(box)
                self.assertEqual(count_of(box), len(points))
                self.assertEqual(corner(box), points[0])

    def test_kinds(self):
        self.assertIs(type(count_of(((1, 1),))), int)
        self.assertIs(type(corner(EIGHT)), tuple)


class Rests(unittest.TestCase):
    def test_nothing_in_common(self):
        for size in SIZES:
            box = EIGHT[:size]
            for place in range(size):
                high = box[place][1]
                self.assertEqual(rests(box, replaced(box, place, (high + 1, high + 2))), [box])

    def test_a_box_within_the_other_one(self):
        for size in SIZES:
            box = EIGHT[:size]
            self.assertEqual(rests(box, box), [])
            self.assertEqual(rests(box, tuple((low - 1, high + 1) for low, high in box)), [])

    def test_of_one_stretch(self):
        self.assertEqual(rests(((0, 9),), ((3, 5),)), [((0, 2),), ((6, 9),)])
        self.assertEqual(rests(((0, 9),), ((0, 5),)), [((6, 9),)])
        self.assertEqual(rests(((0, 9),), ((5, 9),)), [((0, 4),)])
        self.assertEqual(rests(((0, 9),), ((-5, 0),)), [((1, 9),)])
        self.assertEqual(rests(((0, 9),), ((9, 20),)), [((0, 8),)])
        self.assertEqual(rests(((-9, 9),), ((0, 0),)), [((-9, -1),), ((1, 9),)])
        self.assertEqual(rests(((-HUGE, HUGE),), ((0, 0),)), [((-HUGE, -1),), ((1, HUGE),)])

    def test_the_other_one_within_the_box(self):
        expected = [
            ((0, 2), (0, 9), (0, 9)),
            ((4, 9), (0, 9), (0, 9)),
            ((3, 3), (0, 4), (0, 9)),
            ((3, 3), (6, 9), (0, 9)),
            ((3, 3), (5, 5), (0, 6)),
            ((3, 3), (5, 5), (8, 9)),
        ]
        self.assertEqual(rests(((0, 9), (0, 9), (0, 9)), ((3, 3), (5, 5), (7, 7))), expected)

    def test_the_other_one_reaches_out_of_the_box(self):
        expected = [
            ((0, 2), (0, 9), (0, 9)),
            ((3, 9), (6, 9), (0, 9)),
        ]
        self.assertEqual(rests(((0, 9), (0, 9), (0, 9)), ((3, 20), (-4, 5), (-1, 10))), expected)

    def test_two_for_each_stretch_up_to_eight(self):
        for size in SIZES:
            box = ((-9, 9),) * size
            expected = []
            for place in range(size):
                for side in ((-9, -2), (2, 9)):
                    expected.append(((-1, 1),) * place + (side,) + ((-9, 9),) * (size - place - 1))
            self.assertEqual(rests(box, ((-1, 1),) * size), expected)

    def test_each_point_lies_in_the_other_or_in_just_one(self):
        for box, other in pairs_of_boxes():
            told = rests(box, other)
            found = [point for piece in told for point in points_of(piece)]
            expected = set(points_of(box)) - set(points_of(other))
            self.assertEqual(len(found), len(expected), (box, other))
            self.assertEqual(set(found), expected, (box, other))

    def test_kinds(self):
        for told in (rests(EIGHT, EIGHT), rests(EIGHT, ((9, 9),) + EIGHT[1:]), rests(EIGHT, ((1, 2),) + EIGHT[1:])):
            self.assertIs(type(told), list)
            for box in told:
                self.assertIs(type(box), tuple)
                for stretch in box:
                    self.assertEqual([type(stretch), type(stretch[0]), type(stretch[1])], [tuple, int, int])

    def test_the_list_is_the_askers_own(self):
        box = ((0, 9), (0, 9))
        for other in (((20, 21), (0, 9)), ((3, 4), (5, 6)), box):
            first = rests(box, other)
            kept = list(first)
            second = rests(box, other)
            first.clear()
            second.append(box)
            self.assertEqual(rests(box, other), kept)


class Left(unittest.TestCase):
    def test_beside_no_box(self):
        for size in SIZES:
            self.assertEqual(left(EIGHT[:size], []), [EIGHT[:size]])

    def test_beside_one(self):
        for box, other in pairs_of_boxes():
            self.assertEqual(left(box, [other]), rests(box, other))

    def test_one_twice(self):
        for box, other in pairs_of_boxes():
            self.assertEqual(left(box, [other, other]), rests(box, other))

    def test_written_out(self):
        box = ((0, 9), (0, 9))
        expected = [
            # of ((0, 2), (0, 9)), the first left beside the first
            ((0, 1), (0, 9)),
            ((2, 2), (0, 4)),
            ((2, 2), (6, 9)),
            # of ((5, 9), (0, 9))
            ((8, 9), (0, 9)),
            ((5, 7), (0, 4)),
            ((5, 7), (6, 9)),
            # of ((3, 4), (0, 2)): nothing in common with the second
            ((3, 4), (0, 2)),
            # of ((3, 4), (5, 9))
            ((3, 4), (6, 9)),
        ]
        self.assertEqual(left(box, [((3, 4), (3, 4)), ((2, 7), (5, 5))]), expected)

    def test_the_order_of_the_list_counts(self):
        box = ((0, 3), (0, 3))
        across = ((1, 1), (0, 3))
        along = ((0, 3), (1, 1))
        self.assertEqual(left(box, [across, along]),
                         [((0, 0), (0, 0)), ((0, 0), (2, 3)), ((2, 3), (0, 0)), ((2, 3), (2, 3))])
        self.assertEqual(left(box, [along, across]),
                         [((0, 0), (0, 0)), ((2, 3), (0, 0)), ((0, 0), (2, 3)), ((2, 3), (2, 3))])

    def test_boxes_that_reach_out_and_overlap(self):
        box = ((0, 9),)
        self.assertEqual(left(box, [((-5, 2),), ((1, 4),), ((8, 30),)]), [((5, 7),)])
        self.assertEqual(left(box, [((-9, -1),), ((10, 20),)]), [box])
        self.assertEqual(left(box, [((4, 5),), ((-5, 20),)]), [])

    def test_one_list_behind_the_other(self):
        source = random.Random(5)
        for size in (1, 2, 3):
            for step in range(20):
                box = ((-3, 3),) * size
                others = small_boxes(source, size, 4)
                pieces = [box]
                for other in others:
                    pieces = [rest for piece in pieces for rest in rests(piece, other)]
                self.assertEqual(left(box, others), pieces)

    def test_each_point_lies_in_one_of_them_or_in_just_one_left(self):
        source = random.Random(6)
        for size in (1, 2, 3):
            for count in (1, 2, 5, 9):
                box = ((-2, 3),) * size
                others = small_boxes(source, size, count)
                found = [point for piece in left(box, others) for point in points_of(piece)]
                inside = set(point for other in others for point in points_of(other))
                expected = set(points_of(box)) - inside
                self.assertEqual(len(found), len(expected))
                self.assertEqual(set(found), expected)

    def test_what_is_handed_in_stays_as_it_was(self):
        others = [((3, 4), (3, 4)), ((2, 7), (5, 5))]
        kept = list(others)
        left(((0, 9), (0, 9)), others)
        fills(others, ((0, 9), (0, 9)))
        self.assertEqual(others, kept)

    def test_the_list_is_the_askers_own(self):
        box = ((0, 9), (0, 9))
        for others in ([], [((20, 21), (0, 9))], [((3, 4), (5, 6))], [box]):
            first = left(box, others)
            kept = list(first)
            first.append(box)
            self.assertEqual(left(box, others), kept)

    def test_a_list_of_three_hundred(self):
        box = ((0, 599), (0, 9))
        others = [((2 * step, 2 * step), (0, 9)) for step in range(300)]
        self.assertEqual(left(box, others), [((2 * step + 1, 2 * step + 1), (0, 9)) for step in range(300)])


class Fills(unittest.TestCase):
    def test_no_box_at_all(self):
        self.assertIs(fills([], ((0, 0),)), False)
        self.assertIs(fills([], EIGHT), False)

    def test_one(self):
        for box, other in pairs_of_boxes():
            self.assertIs(fills([other], box), within(box, other), (box, other))

    def test_several_that_do_it_together_alone(self):
        box = ((0, 9), (0, 9))
        halves = [((-4, 5), (0, 9)), ((4, 12), (-1, 20))]
        self.assertIs(fills(halves, box), True)
        self.assertIs(fills(halves[:1], box), False)
        self.assertIs(fills(halves[1:], box), False)
        self.assertIs(fills(halves[:1] * 2, box), False)

    def test_one_point_lacks(self):
        box = ((0, 9), (0, 9))
        for point in ((0, 0), (9, 9), (0, 9), (4, 7)):
            others = rests(box, tuple((number, number) for number in point))
            self.assertIs(fills(others, box), False)
            self.assertIs(fills(others + [tuple((number, number) for number in point)], box), True)

    def test_pieces_fill_it_and_all_but_one_do_not(self):
        source = random.Random(7)
        for size in (1, 2, 3, 8):
            box = ((-3, 3),) * size
            pieces = [box]
            for other in small_boxes(source, size, 3):
                pieces = cut(pieces, other)
            self.assertGreater(len(pieces), 1)
            for order in (pieces, pieces[::-1]):
                self.assertIs(fills(order, box), True)
            for place in range(len(pieces)):
                self.assertIs(fills(pieces[:place] + pieces[place + 1:], box), False, (size, place))

    def test_as_the_points_tell(self):
        source = random.Random(8)
        for step in range(200):
            size = 1 + step % 2
            others = small_boxes(source, size, 2 + step % 5)
            box = small_boxes(source, size, 1)[0]
            inside = set(point for other in others for point in points_of(other))
            self.assertIs(fills(others, box), set(points_of(box)) <= inside, (others, box))


class Arguments(unittest.TestCase):
    def test_names(self):
        expected = {
            has: ["box", "point"],
            within: ["box", "other"],
            common: ["box", "other"],
            count_of: ["box"],
            corner: ["box"],
            rests: ["box", "other"],
            left: ["box", "others"],
            fills: ["others", "box"],
        }
        for function, names in expected.items():
            self.assertEqual(list(inspect.signature(function).parameters), names)


if __name__ == "__main__":
    unittest.main()
