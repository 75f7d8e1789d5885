"""Point 23: a box followed along rows; with points 2 and 3 as far as the looker goes."""

import copy
import inspect
import unittest

from building import (ADDRESS, EVERY, PLACES, WHOLE, books_by_chance, box_with, common_plainly, lies_in, lists_within,
                      looked_plainly, parcel_with, parcels_about)
from sieve.books import Book
from sieve.boxes import count_of
from sieve.looking import looked
from sieve.rows import unfolded, walk

SIX = box_with(kind=6)
SEVEN = box_with(kind=7)


def rows_with(*parts):
    """Rows of a main without calls, each of a box, yes and no."""
    return [("main", index) + part for index, part in enumerate(parts)]


def ending(book):
    """A book's rows and default, as a looker takes them."""
    return unfolded(book), book.default


class OneRow(unittest.TestCase):
    def tells(self, row_box, box, *boxes):
        """Looks with each yes and default; boxes are tuples (box, fits)."""
        for yes in ("pass", "stop", 1):
            for default in ("pass", "stop"):
                rows = rows_with((row_box, yes, 1))
                word = default if yes == 1 else yes
                self.assertEqual(looked(rows, default, box),
                                 [(piece, [(0, fits)], word if fits else default) for piece, fits in boxes])

    def test_no_rows_at_all(self):
        for default in ("pass", "stop"):
            for box in (EVERY, SIX, tuple((number, number) for number in parcel_with(kind=3))):
                self.assertEqual(looked([], default, box), [(box, [], default)])

    def test_the_box_within_the_rows_box(self):
        self.tells(EVERY, EVERY, (EVERY, True))
        self.tells(EVERY, SIX, (SIX, True))
        self.tells(SIX, SIX, (SIX, True))
        self.tells(box_with(kind=(5, 7)), box_with(kind=6, turn=(1, 2)), (box_with(kind=6, turn=(1, 2)), True))
        self.tells(box_with(kind=(5, 7)), box_with(kind=(5, 6)), (box_with(kind=(5, 6)), True))
        self.tells(box_with(kind=(5, 7)), box_with(kind=(6, 7)), (box_with(kind=(6, 7)), True))

    def test_nothing_in_common(self):
        self.tells(SIX, SEVEN, (SEVEN, False))
        self.tells(SEVEN, SIX, (SIX, False))
        self.tells(box_with(kind=(0, 5), turn=1), box_with(kind=(6, 255)), (box_with(kind=(6, 255)), False))
        self.tells(box_with(turn=1, receiver_door=9), box_with(receiver_door=8), (box_with(receiver_door=8), False))

    def test_cut_below_and_above_at_each_stretch(self):
        for name in PLACES:
            greatest = WHOLE[name][1]
            self.tells(box_with(**{name: (1, greatest - 1)}), EVERY,
                       (box_with(**{name: (1, greatest - 1)}), True),
                       (box_with(**{name: 0}), False),
                       (box_with(**{name: greatest}), False))
            self.tells(box_with(**{name: (2, greatest)}), EVERY,
                       (box_with(**{name: (2, greatest)}), True),
                       (box_with(**{name: (0, 1)}), False))
            self.tells(box_with(**{name: (0, 1)}), EVERY,
                       (box_with(**{name: (0, 1)}), True),
                       (box_with(**{name: (2, greatest)}), False))

    def test_cut_at_more_stretches(self):
        self.tells(box_with(kind=(6, 17), receiver_door=(0, 1023)), EVERY,
                   (box_with(kind=(6, 17), receiver_door=(0, 1023)), True),
                   (box_with(kind=(0, 5)), False),
                   (box_with(kind=(18, 255)), False),
                   (box_with(kind=(6, 17), receiver_door=(1024, 65535)), False))

    def test_cut_at_all_stretches(self):
        middle = ((1, 2), (6, 17), (10, 20), (30, 40), (50, 60), (70, 80))
        self.tells(middle, EVERY,
                   (middle, True),
                   (((0, 0),) + EVERY[1:], False),
                   (((3, 3),) + EVERY[1:], False),
                   (middle[:1] + ((0, 5),) + EVERY[2:], False),
                   (middle[:1] + ((18, 255),) + EVERY[2:], False),
                   (middle[:2] + ((0, 9),) + EVERY[3:], False),
                   (middle[:2] + ((21, ADDRESS),) + EVERY[3:], False),
                   (middle[:3] + ((0, 29),) + EVERY[4:], False),
                   (middle[:3] + ((41, 65535),) + EVERY[4:], False),
                   (middle[:4] + ((0, 49),) + EVERY[5:], False),
                   (middle[:4] + ((61, ADDRESS),) + EVERY[5:], False),
                   (middle[:5] + ((0, 69),), False),
                   (middle[:5] + ((81, 65535),), False))

    def test_a_smaller_box_that_reaches_out_of_the_rows_box(self):
        self.tells(box_with(kind=(6, 17), turn=(1, 3)), box_with(kind=(10, 20), turn=(0, 2), sender=9),
                   (box_with(kind=(10, 17), turn=(1, 2), sender=9), True),
                   (box_with(kind=(10, 20), turn=0, sender=9), False),
                   (box_with(kind=(18, 20), turn=(1, 2), sender=9), False))


class ManyRows(unittest.TestCase):
    def test_each_row_ends_or_goes_on(self):
        rows = rows_with((SIX, "pass", 1), (SEVEN, "stop", 2))
        for default in ("pass", "stop"):
            self.assertEqual(looked(rows, default, EVERY), [
                (SIX, [(0, True)], "pass"),
                (box_with(kind=(0, 5)), [(0, False), (1, False)], default),
                (SEVEN, [(0, False), (1, True)], "stop"),
                (box_with(kind=(8, 255)), [(0, False), (1, False)], default),
            ])

    def test_what_is_in_common_to_its_end_first(self):
        """A row that fits goes on to rows that part the piece anew, before what was left comes."""
        rows = rows_with((box_with(kind=(10, 99)), 1, 2), (box_with(turn=(1, 2)), "pass", 2),
                         (box_with(kind=(50, 149)), "stop", 3))
        self.assertEqual(looked(rows, "pass", EVERY), [
            (box_with(kind=(10, 99), turn=(1, 2)), [(0, True), (1, True)], "pass"),
            (box_with(kind=(50, 99), turn=0), [(0, True), (1, False), (2, True)], "stop"),
            (box_with(kind=(10, 49), turn=0), [(0, True), (1, False), (2, False)], "pass"),
            (box_with(kind=(50, 99), turn=3), [(0, True), (1, False), (2, True)], "stop"),
            (box_with(kind=(10, 49), turn=3), [(0, True), (1, False), (2, False)], "pass"),
            (box_with(kind=(0, 9)), [(0, False), (2, False)], "pass"),
            (box_with(kind=(100, 149)), [(0, False), (2, True)], "stop"),
            (box_with(kind=(150, 255)), [(0, False), (2, False)], "pass"),
        ])

    def test_each_box_that_is_left_to_its_end_before_the_next(self):
        rows = rows_with((box_with(turn=(1, 2), kind=(6, 17)), "stop", 1), (box_with(kind=(6, 255)), "pass", 2))
        self.assertEqual(looked(rows, "stop", EVERY), [
            (box_with(turn=(1, 2), kind=(6, 17)), [(0, True)], "stop"),
            (box_with(turn=0, kind=(6, 255)), [(0, False), (1, True)], "pass"),
            (box_with(turn=0, kind=(0, 5)), [(0, False), (1, False)], "stop"),
            (box_with(turn=3, kind=(6, 255)), [(0, False), (1, True)], "pass"),
            (box_with(turn=3, kind=(0, 5)), [(0, False), (1, False)], "stop"),
            (box_with(turn=(1, 2), kind=(0, 5)), [(0, False), (1, False)], "stop"),
            (box_with(turn=(1, 2), kind=(18, 255)), [(0, False), (1, True)], "pass"),
        ])

    def test_a_call_and_back(self):
        rows, default = ending(Book("stop", [
            ("main", [("call", box_with(kind=(6, 255)), "a"), ("pass", box_with(turn=(0, 1)))]),
            ("a", [("back", box_with(kind=(6, 17))), ("stop", box_with(turn=0))]),
        ]))
        self.assertEqual(looked(rows, default, EVERY), [
            (box_with(kind=(6, 17), turn=(0, 1)), [(0, True), (1, True), (3, True)], "pass"),
            (box_with(kind=(6, 17), turn=(2, 3)), [(0, True), (1, True), (3, False)], "stop"),
            (box_with(kind=(18, 255), turn=0), [(0, True), (1, False), (2, True)], "stop"),
            (box_with(kind=(18, 255), turn=1), [(0, True), (1, False), (2, False), (3, True)], "pass"),
            (box_with(kind=(18, 255), turn=(2, 3)), [(0, True), (1, False), (2, False), (3, False)], "stop"),
            (box_with(kind=(0, 5), turn=(0, 1)), [(0, False), (3, True)], "pass"),
            (box_with(kind=(0, 5), turn=(2, 3)), [(0, False), (3, False)], "stop"),
        ])

    def test_back_in_main(self):
        rows, default = ending(Book("pass", [("main", [("back", SIX), ("stop", EVERY)])]))
        self.assertEqual(looked(rows, default, EVERY), [
            (SIX, [(0, True)], "pass"),
            (box_with(kind=(0, 5)), [(0, False), (1, True)], "stop"),
            (box_with(kind=(7, 255)), [(0, False), (1, True)], "stop"),
        ])

    def test_a_chain_called_more_than_once(self):
        rows, default = ending(Book("stop", [
            ("main", [("call", box_with(kind=(0, 99)), "a"), ("call", box_with(kind=(50, 255)), "a")]),
            ("a", [("pass", box_with(turn=3))]),
        ]))
        self.assertEqual(looked(rows, default, EVERY), [
            (box_with(kind=(0, 99), turn=3), [(0, True), (1, True)], "pass"),
            (box_with(kind=(50, 99), turn=(0, 2)), [(0, True), (1, False), (2, True), (3, False)], "stop"),
            (box_with(kind=(0, 49), turn=(0, 2)), [(0, True), (1, False), (2, False)], "stop"),
            (box_with(kind=(100, 255), turn=3), [(0, False), (2, True), (3, True)], "pass"),
            (box_with(kind=(100, 255), turn=(0, 2)), [(0, False), (2, True), (3, False)], "stop"),
        ])

    def test_a_chain_without_rules(self):
        rows, default = ending(Book("stop", [("main", [("call", SIX, "a"), ("pass", EVERY)]), ("a", [])]))
        self.assertEqual(looked(rows, default, EVERY), [
            (SIX, [(0, True), (1, True)], "pass"),
            (box_with(kind=(0, 5)), [(0, False), (1, True)], "pass"),
            (box_with(kind=(7, 255)), [(0, False), (1, True)], "pass"),
        ])

    def test_a_smaller_box(self):
        rows = rows_with((box_with(kind=(10, 99)), 1, 2), (box_with(turn=(1, 2)), "pass", 2),
                         (box_with(kind=(50, 149)), "stop", 3))
        self.assertEqual(looked(rows, "pass", box_with(kind=(90, 110), turn=(2, 3))), [
            (box_with(kind=(90, 99), turn=2), [(0, True), (1, True)], "pass"),
            (box_with(kind=(90, 99), turn=3), [(0, True), (1, False), (2, True)], "stop"),
            (box_with(kind=(100, 110), turn=(2, 3)), [(0, False), (2, True)], "stop"),
        ])
        self.assertEqual(looked(rows, "pass", box_with(kind=5)), [(box_with(kind=5), [(0, False), (2, False)], "pass")])

    def test_the_box_of_one_parcel_goes_as_the_parcel(self):
        for number, (default, chains) in enumerate(books_by_chance(231, 40)):
            rows = unfolded(Book(default, chains))
            for parcel in parcels_about(chains, number, 10):
                box = tuple((part, part) for part in parcel)
                self.assertEqual(looked(rows, default, box), [(box,) + walk(rows, default, parcel)])

    def test_as_many_boxes_as_are_promised(self):
        rules = [("call", box_with(kind=(0, number)), "a") for number in range(60)]
        rules += [("call", box_with(receiver_door=(0, number)), "a") for number in range(60)]
        rows, default = ending(Book("stop", [("main", rules), ("a", [])]))
        told = looked(rows, default, EVERY)
        self.assertEqual(len(told), 61 * 61)
        self.assertEqual(told[0], (box_with(kind=0, receiver_door=0), [(row, True) for row in range(120)], "stop"))
        self.assertEqual(told[-1], (box_with(kind=(60, 255), receiver_door=(60, 65535)),
                                    [(row, False) for row in range(120)], "stop"))


class Promise(unittest.TestCase):
    """Of many books, for all parcels and for smaller boxes."""

    def lookings(self):
        for number, (default, chains) in enumerate(books_by_chance(23, 120)):
            rows = unfolded(Book(default, chains))
            boxes = [rule[1] for name, rules in chains for rule in rules]
            for box in [EVERY, box_with(kind=(1, 127), sender=(2, ADDRESS))] + boxes[:2]:
                yield number, chains, rows, default, box, looked(rows, default, box)

    def test_the_same_as_each_piece_by_a_call_of_its_own(self):
        for number, chains, rows, default, box, told in self.lookings():
            self.assertEqual(told, looked_plainly(rows, default, box))

    def test_the_boxes_never_meet_and_fill_the_box(self):
        for number, chains, rows, default, box, told in self.lookings():
            boxes = [piece for piece, way, word in told]
            for place, piece in enumerate(boxes):
                self.assertEqual(common_plainly(piece, box), piece)
                self.assertFalse([other for other in boxes[:place] if common_plainly(piece, other)])
            self.assertEqual(sum(count_of(piece) for piece in boxes), count_of(box))

    def test_each_parcel_in_just_one_box_with_its_way_and_word(self):
        for number, chains, rows, default, box, told in self.lookings():
            for parcel in parcels_about(chains, number, 20):
                ends = [(way, word) for piece, way, word in told if lies_in(piece, parcel)]
                self.assertEqual(ends, [walk(rows, default, parcel)] if lies_in(box, parcel) else [])

    def test_the_books_are_not_all_of_one_sort(self):
        counts = [len(told) for number, chains, rows, default, box, told in self.lookings() if box == EVERY]
        self.assertGreater(len([count for count in counts if count > 10]), 15)
        self.assertGreater(max(counts), 100)


class AskersOwn(unittest.TestCase):
    ROWS = rows_with((box_with(kind=(10, 99)), 1, 2), (box_with(turn=(1, 2)), "pass", 2), (SIX, "stop", 3))

    def test_no_list_stands_twice(self):
        told = looked(self.ROWS, "pass", EVERY)
        lists = lists_within(told)
        self.assertEqual(len(lists), 1 + len(told))
        self.assertEqual(len({id(one) for one in lists}), len(lists))

    def test_a_way_that_is_changed_leaves_all_others(self):
        whole = looked(self.ROWS, "pass", EVERY)
        for place in range(len(whole)):
            for change in (lambda way: way.clear(), lambda way: way.append((9, True))):
                told = looked(self.ROWS, "pass", EVERY)
                change(told[place][1])
                self.assertEqual(told[:place] + told[place + 1:], whole[:place] + whole[place + 1:])
                self.assertEqual(looked(self.ROWS, "pass", EVERY), whole)

    def test_without_rows_too(self):
        looked([], "pass", EVERY)[0][1].append("x")
        looked([], "pass", EVERY).clear()
        self.assertEqual(looked([], "pass", EVERY), [(EVERY, [], "pass")])

    def test_looked_again_the_same_is_told(self):
        first = looked(self.ROWS, "pass", EVERY)
        kept = copy.deepcopy(first)
        looked(self.ROWS, "stop", SIX)
        self.assertEqual(looked(self.ROWS, "pass", EVERY), kept)
        self.assertEqual(first, kept)

    def test_rows_stay_as_they_were(self):
        rows = list(self.ROWS)
        told = looked(rows, "pass", EVERY)
        self.assertEqual(rows, self.ROWS)
        kept = copy.deepcopy(told)
        rows.clear()
        self.assertEqual(told, kept)

    def test_kinds(self):
        for rows in ([], self.ROWS):
            told = looked(rows, "stop", EVERY)
            self.assertIs(type(told), list)
            for one in told:
                self.assertEqual([type(part) for part in (one,) + one], [tuple, tuple, list, str])
                for stretch in one[0]:
                    self.assertEqual([type(stretch), type(stretch[0]), type(stretch[1])], [tuple, int, int])
                for step in one[1]:
                    self.assertEqual([type(step), type(step[0]), type(step[1])], [tuple, int, bool])

    def test_arguments(self):
        self.assertEqual(list(inspect.signature(looked).parameters), ["rows", "default", "box"])


if __name__ == "__main__":
    unittest.main()
