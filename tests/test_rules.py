"""Points 13, 14 and 16 (its first word or words): the box of all parcels, and rules as objects."""

import inspect
import unittest

from sieve.rules import Back, Call, Rule, Word, every, rule_of

ALL = ((0, 3), (0, 255), (0, 4294967295), (0, 65535), (0, 4294967295), (0, 65535))
BOX = ((1, 2), (6, 17), (167772160, 167772415), (1024, 65535), (5, 5), (80, 443))
POINT = ((2, 2), (6, 6), (7, 7), (8, 8), (9, 9), (10, 10))
NAMES = ("a", "guests", "main", "pass", "stop", "back", "call", "from", "turn", "chain", "default", "abcdefghijkl")


def made_and_told(box):
    """Each sort of a rule: what makes its object, its tuple, its first words, its class."""
    sorts = [
        (lambda: Word(box, "pass"), ("pass", box), "pass", Word),
        (lambda: Word(box, "stop"), ("stop", box), "stop", Word),
        (lambda: Back(box), ("back", box), "back", Back),
    ]
    for name in NAMES:
        sorts.append((lambda name=name: Call(box, name), ("call", box, name), "call " + name, Call))
    return sorts


def every_rule(box):
    """An object of each sort, made by its class and by rule_of, and one of the base alone."""
    sorts = made_and_told(box)
    by_class = [made() for made, told, head, sort in sorts]
    return by_class + [rule_of(told) for made, told, head, sort in sorts] + [Rule(box)]


class Every(unittest.TestCase):
    def test_the_six_stretches(self):
        self.assertEqual(every(), ALL)

    def test_kinds(self):
        self.assertIs(type(every()), tuple)
        for stretch in every():
            self.assertEqual([type(stretch), type(stretch[0]), type(stretch[1])], [tuple, int, int])


class Objects(unittest.TestCase):
    def as_told(self, rule, told, head, sort):
        self.assertEqual(rule.told(), told)
        self.assertIs(type(rule.told()), tuple)
        self.assertEqual(rule.head(), head)
        self.assertIs(type(rule.head()), str)
        self.assertEqual(rule.box, told[1])
        self.assertIs(type(rule), sort)

    def test_made_by_their_classes(self):
        for box in (ALL, BOX, POINT):
            for made, told, head, sort in made_and_told(box):
                self.as_told(made(), told, head, sort)

    def test_made_by_rule_of(self):
        for box in (ALL, BOX, POINT):
            for made, told, head, sort in made_and_told(box):
                self.as_told(rule_of(told), told, head, sort)

    def test_each_is_a_rule_and_of_its_own_class_alone(self):
        for made, told, head, sort in made_and_told(BOX):
            for rule in (made(), rule_of(told)):
                self.assertIsInstance(rule, Rule)
                self.assertEqual([isinstance(rule, one) for one in (Word, Back, Call)],
                                 [one is sort for one in (Word, Back, Call)])

    def test_which_class_stands_under_which(self):
        for one in (Word, Back, Call):
            self.assertEqual(one.__bases__, (Rule,))
        self.assertEqual(Rule.__bases__, (object,))

    def test_a_rule_of_a_box_alone(self):
        rule = Rule(BOX)
        self.assertEqual(rule.box, BOX)
        self.assertIs(rule.fits(tuple(low for low, high in BOX)), True)
        for one in (Word, Back, Call):
            self.assertNotIsInstance(rule, one)

    def test_two_beside_each_other(self):
        one = Call(BOX, "one")
        other = Call(POINT, "other")
        self.assertEqual((one.told(), other.told()), (("call", BOX, "one"), ("call", POINT, "other")))

    def test_asked_twice(self):
        for rule in every_rule(BOX)[:-1]:
            first = (rule.told(), rule.head(), rule.box)
            rule.fits(tuple(low for low, high in BOX))
            self.assertEqual((rule.told(), rule.head(), rule.box), first)


class Fits(unittest.TestCase):
    def test_the_ends_of_each_stretch(self):
        for box in (ALL, BOX, POINT):
            lows = tuple(low for low, high in box)
            highs = tuple(high for low, high in box)
            for rule in every_rule(box):
                self.assertIs(rule.fits(lows), True)
                self.assertIs(rule.fits(highs), True)
                for place in range(6):
                    self.assertIs(rule.fits(lows[:place] + highs[place:place + 1] + lows[place + 1:]), True)

    def test_one_off_in_each_stretch(self):
        for box in (BOX, POINT):
            lows = tuple(low for low, high in box)
            for rule in every_rule(box):
                for place in range(6):
                    for number in (box[place][0] - 1, box[place][1] + 1):
                        parcel = lows[:place] + (number,) + lows[place + 1:]
                        self.assertIs(rule.fits(parcel), False, (rule, parcel))

    def test_every_parcel_fits_the_box_of_all(self):
        for parcel in ((0, 0, 0, 0, 0, 0), (3, 255, 4294967295, 65535, 4294967295, 65535), (1, 6, 2, 3, 4, 5)):
            for rule in every_rule(every()):
                self.assertIs(rule.fits(parcel), True)


class Arguments(unittest.TestCase):
    def test_names(self):
        expected = {
            every: [],
            rule_of: ["told"],
            Rule: ["box"],
            Word: ["box", "word"],
            Back: ["box"],
            Call: ["box", "name"],
            Rule.fits: ["self", "parcel"],
        }
        for sort in (Word, Back, Call):
            expected[sort.told] = ["self"]
            expected[sort.head] = ["self"]
        for function, names in expected.items():
            self.assertEqual(list(inspect.signature(function).parameters), names)


if __name__ == "__main__":
    unittest.main()
