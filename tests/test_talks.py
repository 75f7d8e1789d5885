"""Points 30 to 35: labels flipped, and a table of talks; with point 2 as far as these go."""

import inspect
import random
import unittest

from sieve.errors import Full, NoTalk, OutOfTime, Taken
from sieve.talks import Table, flip

# A label as it came, as it was sent, and others that share nothing with them.
CAME = (6, 10, 40000, 20, 80)
SENT = (6, 99, 50000, 20, 80)
BACK = (6, 20, 80, 99, 50000)
HOME = (6, 20, 80, 10, 40000)
OTHER = (17, 1, 2, 3, 4)
OTHER_BACK = (17, 3, 4, 1, 2)
THIRD = (1, 5, 6, 7, 8)


def table_with(*pairs, short=10, long=100, most=9):
    """A table with a talk for each pair of a label and a sent one."""
    table = Table(short, long, most)
    for label, sent in pairs:
        table.begin(label, sent)
    return table


class Case(unittest.TestCase):
    def stands(self, table, *talks):
        self.assertEqual(table.standing(), list(talks))

    def unchanged_by(self, table, error, deed):
        """The error of a deed that must be refused, and the table as it was."""
        labels = (CAME, SENT, BACK, HOME, OTHER, OTHER_BACK, THIRD)
        before = (table.standing(), table.is_full(), [table.turn(label) for label in labels])
        with self.assertRaises(error) as caught:
            deed()
        self.assertEqual((table.standing(), table.is_full(), [table.turn(label) for label in labels]), before)
        return caught.exception


class Flip(unittest.TestCase):
    def test_sender_and_receiver_with_their_doors(self):
        self.assertEqual(flip((1, 2, 3, 4, 5)), (1, 4, 5, 2, 3))
        self.assertEqual(flip(CAME), HOME)
        self.assertEqual(flip(SENT), BACK)
        self.assertEqual(flip((255, 0, 65535, 4294967295, 0)), (255, 4294967295, 0, 0, 65535))

    def test_the_flip_of_a_flip(self):
        for label in (CAME, SENT, OTHER, THIRD, (0, 0, 0, 0, 1)):
            self.assertNotEqual(flip(label), label)
            self.assertEqual(flip(flip(label)), label)

    def test_a_label_that_is_its_own_flip(self):
        for label in ((6, 7, 80, 7, 80), (0, 0, 0, 0, 0), (255, 4294967295, 65535, 4294967295, 65535)):
            self.assertEqual(flip(label), label)

    def test_half_a_flip_is_none(self):
        self.assertEqual(flip((6, 7, 80, 7, 81)), (6, 7, 81, 7, 80))
        self.assertEqual(flip((6, 7, 80, 8, 80)), (6, 8, 80, 7, 80))

    def test_kinds_and_arguments(self):
        told = flip(CAME)
        self.assertEqual([type(part) for part in (told,) + told], [tuple] + 5 * [int])
        self.assertEqual(list(inspect.signature(flip).parameters), ["label"])


class Interface(unittest.TestCase):
    def test_arguments(self):
        self.assertEqual(list(inspect.signature(Table).parameters), ["short", "long", "most"])
        asked = {"at": ["moment"], "turn": ["label"], "free": ["label", "sent"], "begin": ["label", "sent"],
                 "go_on": ["label", "last"], "is_full": [], "standing": []}
        for name, arguments in asked.items():
            self.assertEqual(list(inspect.signature(getattr(Table(1, 1, 1), name)).parameters), arguments)

    def test_kinds(self):
        table = table_with((CAME, SENT), (OTHER, OTHER), most=2)
        for label in (CAME, BACK, THIRD):
            self.assertIs(type(table.turn(label)), int)
        for answer in (table.free(CAME, SENT), table.free(THIRD, THIRD), table.is_full(), Table(1, 1, 1).is_full()):
            self.assertIs(type(answer), bool)
        for label in (BACK, CAME):
            told = table.go_on(label, False)
            self.assertEqual([type(part) for part in (told,) + told], [tuple] + 5 * [int])
        self.assertIs(type(table.standing()), list)
        self.assertIs(type(Table(1, 1, 1).standing()), list)
        for talk in table.standing():
            self.assertEqual([type(part) for part in (talk,) + talk], [tuple, tuple, tuple, bool, int])


class Time(Case):
    def test_nought_at_first(self):
        table = table_with((CAME, SENT))
        self.stands(table, (CAME, SENT, False, 10))
        table.at(0)
        self.stands(table, (CAME, SENT, False, 10))

    def test_a_moment_less_than_the_time(self):
        table = table_with((CAME, SENT))
        for moment in (5, 8):
            table.at(moment)
            for earlier in (0, moment - 1, -1):
                error = self.unchanged_by(table, OutOfTime, lambda: table.at(earlier))
                self.assertEqual(error.moment, moment)
                self.assertIs(type(error.moment), int)
                table.begin(OTHER, OTHER)
                self.assertEqual(table.standing()[1], (OTHER, OTHER, False, moment + 10))
                table.go_on(OTHER, True)
                table.go_on(OTHER_BACK, True)
        self.stands(table, (CAME, SENT, False, 10))

    def test_below_nought_at_first(self):
        table = Table(1, 1, 1)
        self.assertEqual(self.unchanged_by(table, OutOfTime, lambda: table.at(-1)).moment, 0)

    def test_the_same_moment_again(self):
        table = table_with((CAME, SENT))
        for moment in (0, 0, 10, 10, 10):
            table.at(moment)
            self.stands(table, (CAME, SENT, False, 10))

    def test_it_stands_at_its_last_moment_and_not_behind_it(self):
        for short, long, moment in ((1, 5, 0), (1, 5, 1), (10, 100, 3), (100, 10, 3), (10 ** 9, 10 ** 9, 10 ** 9)):
            for answered in (False, True):
                table = table_with((CAME, SENT), short=short, long=long)
                table.at(moment)
                table.go_on(BACK if answered else CAME, False)
                until = moment + (long if answered else short)
                table.at(until)
                self.stands(table, (CAME, SENT, answered, until))
                self.assertEqual((table.turn(CAME), table.turn(BACK)), (2 if answered else 1, 3))
                table.at(until + 1)
                self.stands(table)
                self.assertEqual((table.turn(CAME), table.turn(BACK)), (0, 0))

    def test_over_for_ever(self):
        table = table_with((CAME, SENT), (OTHER, OTHER))
        table.go_on(OTHER_BACK, False)
        table.at(11)
        self.stands(table, (OTHER, OTHER, True, 100))
        for label in (CAME, BACK):
            self.unchanged_by(table, NoTalk, lambda: table.go_on(label, False))
        table.at(11)
        self.stands(table, (OTHER, OTHER, True, 100))

    def test_great_moments(self):
        table = Table(10 ** 9, 10 ** 9, 100)
        table.at(10 ** 12)
        table.begin(CAME, SENT)
        self.stands(table, (CAME, SENT, False, 10 ** 12 + 10 ** 9))
        table.at(10 ** 12)
        self.assertEqual(self.unchanged_by(table, OutOfTime, lambda: table.at(10 ** 12 - 1)).moment, 10 ** 12)

    def test_what_is_over_at_unlike_moments(self):
        table = Table(10, 20, 3)
        for moment, label in ((0, CAME), (4, OTHER), (8, THIRD)):
            table.at(moment)
            table.begin(label, label)
        table.go_on(flip(OTHER), False)
        self.stands(table, (CAME, CAME, False, 10), (OTHER, OTHER, True, 28), (THIRD, THIRD, False, 18))
        table.at(18)
        self.stands(table, (OTHER, OTHER, True, 28), (THIRD, THIRD, False, 18))
        table.at(19)
        self.stands(table, (OTHER, OTHER, True, 28))
        table.at(10 ** 12)
        self.stands(table)


class Turn(unittest.TestCase):
    def turns(self, table):
        return [table.turn(label) for label in (CAME, BACK, SENT, HOME, OTHER)]

    def test_no_talks(self):
        self.assertEqual(self.turns(Table(1, 1, 1)), [0, 0, 0, 0, 0])

    def test_ahead_of_the_answer_and_behind_it(self):
        table = table_with((CAME, SENT))
        self.assertEqual(self.turns(table), [1, 3, 0, 0, 0])
        table.go_on(CAME, False)
        self.assertEqual(self.turns(table), [1, 3, 0, 0, 0])
        table.go_on(BACK, False)
        self.assertEqual(self.turns(table), [2, 3, 0, 0, 0])
        table.go_on(CAME, False)
        self.assertEqual(self.turns(table), [2, 3, 0, 0, 0])

    def test_sent_as_it_came(self):
        table = table_with((CAME, CAME))
        self.assertEqual(self.turns(table), [1, 0, 0, 3, 0])
        table.go_on(HOME, False)
        self.assertEqual(self.turns(table), [2, 0, 0, 3, 0])

    def test_each_talk_for_itself(self):
        table = table_with((CAME, SENT), (OTHER, OTHER))
        table.go_on(OTHER_BACK, False)
        self.assertEqual(self.turns(table), [1, 3, 0, 0, 2])
        self.assertEqual(table.turn(OTHER_BACK), 3)

    def test_each_part_of_the_label_counts(self):
        table = table_with((CAME, SENT))
        for key in (CAME, BACK):
            for place in range(5):
                self.assertEqual(table.turn(key[:place] + (key[place] + 1,) + key[place + 1:]), 0)

    def test_asking_changes_nothing(self):
        table = table_with((CAME, SENT), short=5)
        table.at(3)
        for label in (BACK, CAME, OTHER):
            table.turn(label)
            table.free(label, label)
        self.assertEqual(table.standing(), [(CAME, SENT, False, 5)])
        self.assertEqual(table.turn(CAME), 1)


class Free(Case):
    def is_free(self, table, label, sent, expected):
        self.assertIs(table.free(label, sent), expected)
        if expected:
            before = table.standing()
            table.begin(label, sent)
            self.assertEqual(table.standing()[:-1], before)
            self.assertEqual(table.standing()[-1][:3], (label, sent, False))
        else:
            self.unchanged_by(table, Taken, lambda: table.begin(label, sent))

    def test_no_talks(self):
        self.is_free(Table(1, 1, 1), CAME, SENT, True)
        self.is_free(Table(1, 1, 1), CAME, CAME, True)

    def test_the_label_is_a_key_onward(self):
        self.is_free(table_with((CAME, SENT)), CAME, OTHER, False)
        self.is_free(table_with((OTHER, OTHER), (CAME, SENT), (THIRD, THIRD)), CAME, CAME, False)

    def test_the_label_is_a_key_back(self):
        self.is_free(table_with((CAME, SENT)), BACK, OTHER, False)

    def test_the_flip_of_the_sent_one_is_a_key_onward(self):
        self.is_free(table_with((CAME, SENT)), OTHER, HOME, False)

    def test_the_flip_of_the_sent_one_is_a_key_back(self):
        self.is_free(table_with((CAME, SENT)), OTHER, SENT, False)

    def test_the_label_equal_to_the_flip(self):
        self.is_free(Table(1, 1, 1), CAME, HOME, False)
        own = (6, 7, 80, 7, 80)
        self.is_free(Table(1, 1, 1), own, own, False)
        self.is_free(Table(1, 1, 1), own, OTHER, True)

    def test_labels_that_are_no_keys(self):
        """The sent label, and the flip of the label as it came, where the two are unlike."""
        self.is_free(table_with((CAME, SENT)), SENT, OTHER, True)
        self.is_free(table_with((CAME, SENT)), HOME, OTHER, True)
        self.is_free(table_with((CAME, SENT)), OTHER, CAME, True)
        self.is_free(table_with((CAME, SENT)), OTHER, BACK, True)

    def test_a_talk_that_is_over_leaves_its_keys_free(self):
        for over in ("time", "farewells"):
            for label, sent in ((CAME, OTHER), (BACK, OTHER), (OTHER, HOME), (OTHER, SENT), (CAME, SENT)):
                table = table_with((CAME, SENT), most=1)
                if over == "time":
                    table.at(11)
                else:
                    table.go_on(CAME, True)
                    table.go_on(BACK, True)
                self.is_free(table, label, sent, True)

    def test_a_talk_that_goes_on_keeps_its_keys(self):
        table = table_with((CAME, SENT), short=5, long=9)
        table.at(4)
        table.go_on(CAME, False)
        table.at(9)
        table.go_on(BACK, True)
        table.at(18)
        self.is_free(table, CAME, OTHER, False)
        self.is_free(table, OTHER, SENT, False)

    def test_no_two_keys_are_ever_equal(self):
        chance = random.Random(33)
        for number in range(30):
            table = Table(4, 8, 12)
            for moment in range(60):
                table.at(moment)
                label, sent = [(0,) + tuple(chance.choice((1, 2)) for place in range(4)) for side in range(2)]
                taken = [key for came, out, answered, until in table.standing() for key in (came, flip(out))]
                self.assertEqual(len(set(taken)), len(taken))
                self.is_free(table, label, sent, label not in taken and flip(sent) not in taken and label != flip(sent))


class Begin(Case):
    def test_not_answered_and_up_to_the_time_and_short(self):
        table = Table(7, 100, 9)
        table.at(20)
        table.begin(CAME, SENT)
        self.stands(table, (CAME, SENT, False, 27))

    def test_full(self):
        for most in (1, 2, 3):
            table = Table(10, 20, most)
            for number in range(most):
                self.assertIs(table.is_full(), False)
                table.begin((number, 1, 2, 3, 4), (number, 1, 2, 3, 4))
            self.assertIs(table.is_full(), True)
            self.unchanged_by(table, Full, lambda: table.begin(CAME, SENT))

    def test_a_hundred_talks(self):
        table = Table(10, 20, 100)
        for number in range(100):
            self.assertIs(table.is_full(), False)
            table.begin((number, 1, 2, 3, 4), (number, 1, 2, 3, 5))
        self.assertIs(table.is_full(), True)
        self.stands(table, *[((number, 1, 2, 3, 4), (number, 1, 2, 3, 5), False, 10) for number in range(100)])

    def test_full_ahead_of_taken(self):
        table = table_with((CAME, SENT), (OTHER, OTHER), most=2)
        for label, sent in ((CAME, SENT), (BACK, THIRD), (THIRD, HOME), (THIRD, SENT), (THIRD, flip(THIRD))):
            self.unchanged_by(table, Full, lambda: table.begin(label, sent))
        table = table_with((CAME, SENT), most=2)
        for label, sent in ((CAME, SENT), (BACK, THIRD), (THIRD, HOME), (THIRD, SENT), (THIRD, flip(THIRD))):
            self.unchanged_by(table, Taken, lambda: table.begin(label, sent))

    def test_a_talk_that_is_over_leaves_its_place_empty(self):
        table = table_with((CAME, SENT), (OTHER, OTHER), most=2)
        table.go_on(OTHER_BACK, False)
        table.at(10)
        self.assertIs(table.is_full(), True)
        table.at(11)
        self.assertIs(table.is_full(), False)
        table.begin(THIRD, THIRD)
        self.assertIs(table.is_full(), True)
        table.go_on(OTHER, True)
        table.go_on(OTHER_BACK, True)
        self.assertIs(table.is_full(), False)
        table.begin(CAME, SENT)
        self.stands(table, (THIRD, THIRD, False, 21), (CAME, SENT, False, 21))

    def test_whether_it_is_free_is_asked_of_a_full_table_too(self):
        table = table_with((CAME, SENT), most=1)
        self.assertIs(table.free(OTHER, OTHER), True)
        self.assertIs(table.free(CAME, OTHER), False)

    def test_begun_again_as_a_new_talk(self):
        table = table_with((CAME, SENT), (OTHER, OTHER), short=10, long=30)
        table.go_on(BACK, False)
        table.go_on(BACK, True)
        table.go_on(CAME, True)
        table.begin(CAME, SENT)
        self.stands(table, (OTHER, OTHER, False, 10), (CAME, SENT, False, 10))
        self.assertEqual(table.turn(CAME), 1)
        table.go_on(BACK, True)
        self.assertEqual(table.turn(CAME), 2)


class GoOn(Case):
    def test_the_label_as_the_parcel_goes_out(self):
        table = table_with((CAME, SENT), (OTHER, OTHER))
        for again in range(2):
            self.assertEqual(table.go_on(CAME, False), SENT)
            self.assertEqual(table.go_on(BACK, False), HOME)
            self.assertEqual(table.go_on(OTHER, False), OTHER)
            self.assertEqual(table.go_on(OTHER_BACK, False), OTHER_BACK)

    def test_the_receiver_changed_on_its_way(self):
        sent = (6, 10, 40000, 77, 8080)
        table = table_with((CAME, sent))
        self.assertEqual(table.go_on(CAME, False), sent)
        self.assertEqual(table.go_on((6, 77, 8080, 10, 40000), False), HOME)
        self.unchanged_by(table, NoTalk, lambda: table.go_on(HOME, False))

    def test_answered_by_the_one_that_goes_back(self):
        table = table_with((CAME, SENT), (OTHER, OTHER))
        table.at(4)
        table.go_on(CAME, False)
        self.stands(table, (CAME, SENT, False, 14), (OTHER, OTHER, False, 10))
        table.at(6)
        table.go_on(BACK, False)
        self.stands(table, (CAME, SENT, True, 106), (OTHER, OTHER, False, 10))
        table.at(8)
        table.go_on(CAME, False)
        self.stands(table, (CAME, SENT, True, 108), (OTHER, OTHER, False, 10))
        table.go_on(OTHER, False)
        self.stands(table, (CAME, SENT, True, 108), (OTHER, OTHER, False, 18))

    def test_its_end_can_come_earlier(self):
        table = table_with((CAME, SENT), short=50, long=5)
        table.at(10)
        table.go_on(BACK, False)
        self.stands(table, (CAME, SENT, True, 15))
        table.at(16)
        self.stands(table)

    def test_no_talk(self):
        empty = Table(1, 1, 1)
        self.unchanged_by(empty, NoTalk, lambda: empty.go_on(CAME, False))
        table = table_with((CAME, SENT))
        table.at(5)
        for label in (SENT, HOME, OTHER, THIRD):
            for last in (False, True):
                self.unchanged_by(table, NoTalk, lambda: table.go_on(label, last))

    def test_no_talk_behind_its_end(self):
        table = table_with((CAME, SENT))
        table.at(11)
        for label in (CAME, BACK):
            self.unchanged_by(table, NoTalk, lambda: table.go_on(label, True))


class Farewells(Case):
    def test_from_one_side_twice(self):
        for label, answered in ((CAME, False), (BACK, True)):
            table = table_with((CAME, SENT))
            for again in range(3):
                table.go_on(label, True)
                self.stands(table, (CAME, SENT, answered, 100 if answered else 10))

    def test_from_both_sides_in_both_orders(self):
        for first, second in ((CAME, BACK), (BACK, CAME)):
            table = table_with((OTHER, OTHER), (CAME, SENT), (THIRD, THIRD))
            outs = {CAME: SENT, BACK: HOME}
            self.assertEqual(table.go_on(first, True), outs[first])
            self.assertEqual(len(table.standing()), 3)
            self.assertEqual(table.go_on(second, True), outs[second])
            self.stands(table, (OTHER, OTHER, False, 10), (THIRD, THIRD, False, 10))
            self.assertEqual([table.turn(label) for label in (CAME, BACK, OTHER, THIRD)], [0, 0, 1, 1])
            for label in (CAME, BACK):
                self.unchanged_by(table, NoTalk, lambda: table.go_on(label, False))

    def test_deeds_between_them(self):
        table = table_with((CAME, SENT))
        table.go_on(CAME, True)
        table.at(3)
        table.go_on(CAME, False)
        self.stands(table, (CAME, SENT, False, 13))
        table.go_on(BACK, False)
        self.stands(table, (CAME, SENT, True, 103))
        table.at(90)
        self.assertEqual(table.go_on(BACK, True), HOME)
        self.stands(table)

    def test_one_without_a_farewell_is_none(self):
        table = table_with((CAME, SENT))
        for label in (CAME, BACK, CAME, BACK):
            table.go_on(label, False)
        self.stands(table, (CAME, SENT, True, 100))
        table.go_on(BACK, True)
        table.go_on(CAME, False)
        self.stands(table, (CAME, SENT, True, 100))

    def test_a_farewell_lengthens_or_shortens_as_any_deed(self):
        table = table_with((CAME, SENT), short=10, long=4)
        table.at(2)
        table.go_on(CAME, True)
        self.stands(table, (CAME, SENT, False, 12))
        table = table_with((CAME, SENT), short=10, long=4)
        table.at(2)
        table.go_on(BACK, True)
        self.stands(table, (CAME, SENT, True, 6))

    def test_each_talk_has_its_own(self):
        table = table_with((CAME, SENT), (OTHER, OTHER))
        table.go_on(CAME, True)
        table.go_on(OTHER_BACK, True)
        self.stands(table, (CAME, SENT, False, 10), (OTHER, OTHER, True, 100))

    def test_a_talk_begun_again_has_none_yet(self):
        table = table_with((CAME, SENT))
        table.go_on(CAME, True)
        table.go_on(BACK, True)
        table.begin(CAME, SENT)
        table.go_on(BACK, True)
        self.stands(table, (CAME, SENT, True, 100))
        table.at(101)
        table.begin(CAME, SENT)
        table.go_on(CAME, True)
        self.stands(table, (CAME, SENT, False, 111))


class Standing(Case):
    def test_no_talks(self):
        self.stands(Table(1, 1, 1))

    def test_in_the_order_of_beginning(self):
        table = table_with((THIRD, THIRD), (CAME, SENT), (OTHER, OTHER))
        table.at(5)
        for label in (OTHER_BACK, CAME, BACK):
            table.go_on(label, False)
        self.stands(table, (THIRD, THIRD, False, 10), (CAME, SENT, True, 105), (OTHER, OTHER, True, 105))

    def test_the_list_is_the_askers_own(self):
        table = table_with((CAME, SENT), most=1)
        table.standing().clear()
        Table(1, 1, 1).standing().append("x")
        kept = table.standing()
        table.go_on(BACK, False)
        self.assertEqual(kept, [(CAME, SENT, False, 10)])
        kept.clear()
        self.stands(table, (CAME, SENT, True, 100))
        self.assertIs(table.is_full(), True)
        self.stands(Table(1, 1, 1))

    def test_two_tables_beside_each_other(self):
        one = table_with((CAME, SENT), short=10, long=100, most=1)
        other = Table(20, 200, 2)
        self.stands(other)
        other.at(50)
        one.at(4)
        other.begin(CAME, SENT)
        other.go_on(BACK, True)
        self.stands(one, (CAME, SENT, False, 10))
        self.stands(other, (CAME, SENT, True, 250))
        one.go_on(CAME, True)
        self.assertEqual((one.is_full(), other.is_full()), (True, False))
        self.assertEqual((one.turn(CAME), other.turn(CAME)), (1, 2))
        one.at(15)
        self.stands(one)
        self.stands(other, (CAME, SENT, True, 250))


class Model:
    """A table told anew from points 31 to 35, with every talk that ever was."""

    def __init__(self, short, long, most):
        self.short, self.long, self.most, self.time, self.talks = short, long, most, 0, []

    def standing(self):
        return [talk for talk in self.talks if talk["until"] >= self.time and talk["said"] != {"onward", "back"}]

    def going(self, label):
        """The talk and the side by which the label goes."""
        for talk in self.standing():
            for side, key in (("back", flip(talk["sent"])), ("onward", talk["label"])):
                if key == label:
                    return talk, side
        return None, None

    def begin(self, label, sent):
        keys = [key for talk in self.standing() for key in (talk["label"], flip(talk["sent"]))]
        if len(self.standing()) == self.most:
            return Full
        if label in keys or flip(sent) in keys or label == flip(sent):
            return Taken
        self.talks.append({"label": label, "sent": sent, "answered": False, "until": self.time + self.short,
                           "said": set()})
        return None

    def go_on(self, label, last):
        talk, side = self.going(label)
        if talk is None:
            return NoTalk
        talk["answered"] |= side == "back"
        talk["until"] = self.time + (self.long if talk["answered"] else self.short)
        talk["said"] |= {side} if last else set()
        return flip(talk["label"]) if side == "back" else talk["sent"]

    def turn(self, label):
        talk, side = self.going(label)
        return 0 if talk is None else 3 if side == "back" else 2 if talk["answered"] else 1


class ManyDeeds(unittest.TestCase):
    def answer_of(self, deed):
        try:
            return deed()
        except (Full, Taken, NoTalk) as error:
            return type(error)

    def test_many_deeds_by_chance(self):
        seen = {}
        for seed in range(150):
            chance = random.Random(seed)
            limits = (chance.randint(1, 9), chance.randint(1, 20), chance.randint(1, 5))
            table, model = Table(*limits), Model(*limits)
            labels = [(kind,) + tuple(chance.choice((1, 2)) for place in range(4)) for kind in (6, 17) for one in range(5)]
            labels += [flip(label) for label in labels]
            for step in range(60):
                deed = chance.choice(("at", "begin", "go_on", "go_on"))
                label, sent, last = chance.choice(labels), chance.choice(labels), chance.random() < 0.3
                if deed == "at":
                    model.time += chance.choice((0, 1, 1, 2, 6))
                    table.at(model.time)
                elif deed == "begin":
                    self.assertEqual(self.answer_of(lambda: table.begin(label, sent) and None), model.begin(label, sent))
                else:
                    told = self.answer_of(lambda: table.go_on(label, last))
                    self.assertEqual(told, model.go_on(label, last))
                    seen[told] = seen.get(told, 0) + 1
                self.assertEqual(table.standing(), [(talk["label"], talk["sent"], talk["answered"], talk["until"])
                                                    for talk in model.standing()])
                turns = [table.turn(one) for one in labels]
                self.assertEqual(turns, [model.turn(one) for one in labels])
                self.assertIs(table.is_full(), len(model.standing()) == limits[2])
                for turn in turns:
                    seen[turn] = seen.get(turn, 0) + 1
        for turn in range(4):
            self.assertGreater(seen[turn], 1000)
        self.assertGreater(sum(seen.values()) - seen[NoTalk], 1000)


if __name__ == "__main__":
    unittest.main()
