"""Points 36 and 37: a label changed, and the choice for a label by changes and a table; with points 2 and 33."""

import inspect
import random
import unittest

from building import labels_with, lies_in
from sieve.changes import changed, choice
from sieve.talks import Table, flip

LABEL = (6, 10, 40000, 20, 80)
OTHER = (17, 1, 2, 3, 4)
OWN_FLIP = (6, 7, 80, 7, 80)
ALL = labels_with()


def table_with(*pairs):
    """A table with a talk for each pair of a label and a sent one."""
    table = Table(10, 100, 100)
    for label, sent in pairs:
        table.begin(label, sent)
    return table


def taken(label, side, address, doors):
    """Pairs for talks that take the label changed with each of the doors; the labels share nothing with it."""
    return [((200, number, 1, 2, 3), changed(label, side, address, door)) for number, door in enumerate(doors)]


class Changed(unittest.TestCase):
    def test_from(self):
        self.assertEqual(changed(LABEL, "from", 99, 5), (6, 99, 5, 20, 80))
        self.assertEqual(changed((1, 2, 3, 4, 5), "from", 4294967295, 65535), (1, 4294967295, 65535, 4, 5))
        self.assertEqual(changed((1, 2, 3, 4, 5), "from", 0, 0), (1, 0, 0, 4, 5))

    def test_to(self):
        self.assertEqual(changed(LABEL, "to", 99, 5), (6, 10, 40000, 99, 5))
        self.assertEqual(changed((1, 2, 3, 4, 5), "to", 4294967295, 65535), (1, 2, 3, 4294967295, 65535))
        self.assertEqual(changed((1, 2, 3, 4, 5), "to", 0, 0), (1, 2, 3, 0, 0))

    def test_to_what_stands_there_already(self):
        self.assertEqual(changed(LABEL, "from", 10, 40000), LABEL)
        self.assertEqual(changed(LABEL, "to", 20, 80), LABEL)

    def test_kinds_and_arguments(self):
        for side in ("from", "to"):
            told = changed(LABEL, side, 99, 5)
            self.assertEqual([type(part) for part in (told,) + told], [tuple] + 5 * [int])
        self.assertEqual(list(inspect.signature(changed).parameters), ["label", "side", "address", "door"])


class NoChange(unittest.TestCase):
    def test_the_label_itself(self):
        for changes in ([], [("from", labels_with(kind=17), 99, (1, 9))]):
            self.assertEqual(choice(changes, LABEL, table_with()), LABEL)
            self.assertEqual(choice(changes, LABEL, table_with((OTHER, OTHER))), LABEL)

    def test_a_label_that_is_its_own_flip(self):
        self.assertIsNone(choice([], OWN_FLIP, table_with()))
        self.assertIsNone(choice([("from", labels_with(kind=17), 99, (1, 9))], OWN_FLIP, table_with()))

    def test_a_key_of_a_talk(self):
        self.assertIsNone(choice([], LABEL, table_with((LABEL, LABEL))))
        self.assertIsNone(choice([], LABEL, table_with((LABEL, OTHER))))
        self.assertIsNone(choice([], LABEL, table_with((OTHER, flip(LABEL)))))

    def test_the_flip_is_a_key_of_a_talk(self):
        self.assertIsNone(choice([], LABEL, table_with((flip(LABEL), OTHER))))
        self.assertIsNone(choice([], LABEL, table_with((OTHER, LABEL))))

    def test_free_again_once_the_talk_is_over(self):
        table = table_with((OTHER, LABEL))
        table.at(10)
        self.assertIsNone(choice([], LABEL, table))
        table.at(11)
        self.assertEqual(choice([], LABEL, table), LABEL)


class WhichChange(unittest.TestCase):
    def test_each_part_of_the_box_counts(self):
        for place, (name, number) in enumerate(zip(("kind", "sender", "sender_door", "receiver", "receiver_door"), LABEL)):
            for low, high, inside in ((number, number, True), (number - 1, number, True), (number, number + 1, True),
                                      (0, number - 1, False), (number + 1, number + 2, False)):
                changes = [("from", labels_with(**{name: (low, high)}), 99, (5, 9))]
                told = choice(changes, LABEL, table_with())
                self.assertEqual(told, (6, 99, 5, 20, 80) if inside else LABEL, (place, low, high))

    def test_the_first_that_has_it(self):
        changes = [("from", labels_with(kind=17), 1, (1, 1)), ("to", labels_with(sender=10), 2, (2, 2)),
                   ("from", labels_with(kind=6), 3, (3, 3)), ("from", ALL, 4, (4, 4))]
        self.assertEqual(choice(changes, LABEL, table_with()), (6, 10, 40000, 2, 2))
        self.assertEqual(choice(changes[2:], LABEL, table_with()), (6, 3, 3, 20, 80))
        self.assertEqual(choice(changes[::-1], LABEL, table_with()), (6, 4, 4, 20, 80))
        self.assertEqual(choice(changes, OTHER, table_with()), (17, 1, 1, 3, 4))

    def test_no_later_change_is_asked(self):
        changes = [("from", labels_with(kind=6), 99, (5, 6)), ("from", ALL, 98, (1, 9)), ("to", ALL, 97, (1, 9))]
        self.assertIsNone(choice(changes, LABEL, table_with(*taken(LABEL, "from", 99, (5, 6)))))

    def test_nor_the_label_itself(self):
        changes = [("to", ALL, 99, (5, 5))]
        table = table_with(*taken(LABEL, "to", 99, (5,)))
        self.assertTrue(table.free(LABEL, LABEL))
        self.assertIsNone(choice(changes, LABEL, table))


class WhichDoor(unittest.TestCase):
    def test_the_least(self):
        for side, told in (("from", (6, 99, 5, 20, 80)), ("to", (6, 10, 40000, 99, 5))):
            self.assertEqual(choice([(side, ALL, 99, (5, 9))], LABEL, table_with()), told)
            self.assertEqual(choice([(side, ALL, 99, (5, 5))], LABEL, table_with()), told)

    def test_the_least_that_is_free(self):
        for side in ("from", "to"):
            for doors, least in (((5,), 6), ((5, 6), 7), ((6, 7), 5), ((5, 7), 6), ((5, 6, 7), 8), ((5, 6, 7, 8), None)):
                table = table_with(*taken(LABEL, side, 99, doors))
                told = choice([(side, ALL, 99, (5, 8))], LABEL, table)
                self.assertEqual(told, None if least is None else changed(LABEL, side, 99, least), (side, doors))

    def test_what_else_stands_takes_no_door(self):
        # The same address and door, but towards another receiver: the answers come by another key.
        table = table_with(((200, 1, 1, 2, 3), (6, 99, 5, 21, 80)), ((201, 1, 1, 2, 3), (6, 99, 5, 20, 81)))
        self.assertEqual(choice([("from", ALL, 99, (5, 9))], LABEL, table), (6, 99, 5, 20, 80))

    def test_a_key_onward_takes_a_door_too(self):
        # An answer to the changed label would come by a label by which another talk goes onward.
        table = table_with(((6, 20, 80, 99, 5), OTHER))
        self.assertEqual(choice([("from", ALL, 99, (5, 9))], LABEL, table), (6, 99, 6, 20, 80))

    def test_the_label_equal_to_the_flip_of_the_changed_one(self):
        # One side is changed alone, so this comes about only where the label is its own flip and stays as it is.
        self.assertEqual(choice([("to", ALL, 1, (1, 4))], OWN_FLIP, table_with()), (6, 7, 80, 1, 1))
        self.assertEqual(choice([("to", ALL, 7, (80, 81))], OWN_FLIP, table_with()), (6, 7, 80, 7, 81))
        self.assertEqual(choice([("from", ALL, 7, (80, 81))], OWN_FLIP, table_with()), (6, 7, 81, 7, 80))
        self.assertIsNone(choice([("from", ALL, 7, (80, 80))], OWN_FLIP, table_with()))

    def test_a_label_that_is_a_key_of_a_talk(self):
        for pair in ((LABEL, LABEL), (LABEL, OTHER), (OTHER, flip(LABEL))):
            for side in ("from", "to"):
                for doors in ((5, 9), (0, 65535)):
                    self.assertIsNone(choice([(side, ALL, 99, doors)], LABEL, table_with(pair)))

    def test_the_ends_of_all_doors(self):
        for side in ("from", "to"):
            self.assertEqual(choice([(side, ALL, 99, (0, 65535))], LABEL, table_with()), changed(LABEL, side, 99, 0))
            self.assertEqual(choice([(side, ALL, 99, (65535, 65535))], LABEL, table_with()),
                             changed(LABEL, side, 99, 65535))
            table = table_with(*taken(LABEL, side, 99, range(65436, 65535)))
            self.assertEqual(choice([(side, ALL, 99, (65436, 65535))], LABEL, table), changed(LABEL, side, 99, 65535))

    def test_whether_the_table_is_full_is_not_asked(self):
        table = Table(10, 100, 1)
        table.begin(OTHER, OTHER)
        self.assertEqual(choice([], LABEL, table), LABEL)
        self.assertEqual(choice([("from", ALL, 99, (5, 9))], LABEL, table), (6, 99, 5, 20, 80))


class Kinds(unittest.TestCase):
    def test_kinds_and_arguments(self):
        for changes in ([], [("from", ALL, 99, (5, 9))], [("to", ALL, 99, (5, 9))]):
            told = choice(changes, LABEL, table_with())
            self.assertEqual([type(part) for part in (told,) + told], [tuple] + 5 * [int])
        self.assertEqual(list(inspect.signature(choice).parameters), ["changes", "label", "table"])

    def test_changes_and_table_stay(self):
        table = table_with((OTHER, OTHER), *taken(LABEL, "from", 99, (5,)))
        table.at(3)
        standing = table.standing()
        changes = [("to", labels_with(kind=1), 98, (1, 1)), ("from", ALL, 99, (5, 9))]
        before = list(changes)
        for label in (LABEL, OTHER, flip(OTHER), OWN_FLIP):
            first = choice(changes, label, table)
            self.assertEqual(choice(changes, label, table), first)
        self.assertEqual(changes, before)
        self.assertEqual(table.standing(), standing)
        self.assertEqual([table.turn(label) for label in (LABEL, OTHER, flip(OTHER))], [0, 1, 3])


class ManyChoices(unittest.TestCase):
    def expected(self, changes, label, keys):
        """The choice told anew from point 37, by the keys of the talks that stand."""
        tried = [[changed(label, side, address, door) for door in range(doors[0], doors[1] + 1)]
                 for side, box, address, doors in changes if lies_in(box, label)]
        for sent in (tried + [[label]])[0]:
            if label not in keys and flip(sent) not in keys and label != flip(sent):
                return sent
        return None

    def test_many_choices_by_chance(self):
        seen = {"none": 0, "itself": 0, "changed": 0}
        for seed in range(200):
            chance = random.Random(seed)
            table = Table(6, 9, 100)
            changes = [(chance.choice(("from", "to")), labels_with(sender=tuple(sorted(chance.choices((0, 1, 2), k=2)))),
                        chance.randint(1, 2), tuple(sorted(chance.choices((0, 1, 2), k=2)))) for number in range(2)]
            for moment in range(20):
                table.at(moment)
                label = (0,) + tuple(chance.randint(0, 2) for place in range(4))
                keys = [key for came, sent, answered, until in table.standing() for key in (came, flip(sent))]
                told = choice(changes, label, table)
                self.assertEqual(told, self.expected(changes, label, keys))
                seen["none" if told is None else "itself" if told == label else "changed"] += 1
                if told is not None:
                    table.begin(label, told)
        for sort in seen:
            self.assertGreater(seen[sort], 100, seen)


if __name__ == "__main__":
    unittest.main()
