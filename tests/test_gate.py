"""Points 38 and 39: what a gate takes and tells, and how answers come back; with points 2, 19 and 30 to 35."""

import inspect
import random
import unittest

from building import EVERY, GateModel, box_with, labels_with, read_plainly
from sieve.books import Book
from sieve.errors import OutOfTime
from sieve.gate import Gate
from sieve.talks import flip

# A label of the house, one of the world, and one of another kind.
HOUSE = (6, 10, 40000, 20, 80)
WORLD = (6, 30, 50000, 99, 443)
OTHER = (17, 1, 2, 3, 4)
OWN_FLIP = (6, 7, 80, 7, 80)
OUTWARD = ("from", labels_with(sender=10), 99, (5, 6))
INWARD = ("to", labels_with(receiver=99, receiver_door=443), 11, (8443, 8443))


def book_of(default, *rules):
    return Book(default, [("main", list(rules))])


def gate_with(*rules, default="pass", changes=(), short=10, long=100, most=9):
    return Gate(book_of(default, *rules), list(changes), short, long, most)


class Case(unittest.TestCase):
    def stands(self, gate, *talks):
        self.assertEqual(gate.standing(), list(talks))


class Time(Case):
    def test_set_to_the_moment(self):
        gate = gate_with()
        for moment, label in ((0, HOUSE), (0, WORLD), (7, OTHER)):
            self.assertEqual(gate.take(moment, label), ("pass", label))
        self.stands(gate, (HOUSE, HOUSE, False, 10), (WORLD, WORLD, False, 10), (OTHER, OTHER, False, 17))

    def test_set_where_the_word_is_stop_too(self):
        gate = gate_with(("stop", box_with(kind=17)))
        gate.take(0, HOUSE)
        self.assertEqual(gate.take(11, OTHER), ("stop", None))
        self.stands(gate)
        with self.assertRaises(OutOfTime) as caught:
            gate.take(10, HOUSE)
        self.assertEqual(caught.exception.moment, 11)

    def test_set_where_it_is_full_too(self):
        gate = gate_with(most=1)
        gate.take(0, HOUSE)
        self.assertEqual(gate.take(10, OTHER), ("full", None))
        self.assertRaises(OutOfTime, gate.take, 9, OTHER)
        self.assertEqual(gate.take(11, OTHER), ("pass", OTHER))
        self.stands(gate, (OTHER, OTHER, False, 21))

    def test_out_of_time_changes_nothing(self):
        # Each of these would have been stopped, begun, gone on or found no place, had its moment come in time.
        for label in (HOUSE, flip(HOUSE), WORLD, OTHER, OWN_FLIP):
            for last in (False, True):
                gate = gate_with(("stop", box_with(kind=17)))
                gate.take(5, HOUSE)
                before = (gate.standing(), gate.turn(HOUSE), gate.turn(flip(HOUSE)), gate.turn(label))
                for moment in (4, 0):
                    with self.assertRaises(OutOfTime) as caught:
                        gate.take(moment, label, last)
                    self.assertEqual(caught.exception.moment, 5)
                    self.assertIs(type(caught.exception.moment), int)
                self.assertEqual((gate.standing(), gate.turn(HOUSE), gate.turn(flip(HOUSE)), gate.turn(label)), before)
                gate.take(5, flip(HOUSE), True)
                self.stands(gate, (HOUSE, HOUSE, True, 105))

    def test_turn_and_standing_at_its_time(self):
        gate = gate_with(changes=[OUTWARD])
        self.assertEqual((gate.turn(HOUSE), gate.standing()), (0, []))
        gate.take(3, HOUSE)
        answer = (6, 20, 80, 99, 5)
        self.assertEqual((gate.turn(HOUSE), gate.turn(answer), gate.turn(flip(HOUSE))), (1, 3, 0))
        gate.take(13, answer)
        self.assertEqual((gate.turn(HOUSE), gate.turn(answer), gate.turn(flip(HOUSE))), (2, 3, 0))
        self.stands(gate, (HOUSE, (6, 99, 5, 20, 80), True, 113))
        gate.take(113, OTHER)
        self.assertEqual((gate.turn(HOUSE), gate.turn(answer), gate.turn(OTHER)), (2, 3, 1))
        gate.take(114, WORLD)
        self.assertEqual((gate.turn(HOUSE), gate.turn(answer), gate.turn(OTHER)), (0, 0, 1))
        self.stands(gate, (OTHER, OTHER, False, 123), (WORLD, WORLD, False, 124))

    def test_great_moments(self):
        gate = gate_with(short=10 ** 9, long=10 ** 9, most=100)
        self.assertEqual(gate.take(10 ** 12, HOUSE), ("pass", HOUSE))
        self.stands(gate, (HOUSE, HOUSE, False, 10 ** 12 + 10 ** 9))


class Stop(Case):
    def test_a_new_label(self):
        gate = gate_with(("stop", EVERY))
        for last in (False, True):
            self.assertEqual(gate.take(0, HOUSE, last), ("stop", None))
        self.stands(gate)

    def test_the_default(self):
        gate = gate_with(default="stop")
        self.assertEqual(gate.take(0, HOUSE), ("stop", None))
        self.stands(gate)

    def test_ahead_of_full(self):
        gate = gate_with(("stop", box_with(kind=17)), most=1)
        gate.take(0, HOUSE)
        self.assertEqual(gate.take(0, OTHER), ("stop", None))
        self.assertEqual(gate.take(0, WORLD), ("full", None))
        gate = gate_with(("stop", box_with(sender=7)))
        self.assertEqual(gate.take(0, OWN_FLIP), ("stop", None))

    def test_ahead_of_a_talk_that_would_go_on(self):
        for turn, label in ((1, HOUSE), (3, flip(HOUSE))):
            gate = gate_with(("stop", box_with(turn=turn)))
            gate.take(0, HOUSE)
            for last in (False, True):
                self.assertEqual(gate.take(4, label, last), ("stop", None))
            # Neither longer nor answered, and no farewell was said.
            self.stands(gate, (HOUSE, HOUSE, False, 10))

    def test_no_farewell_was_said(self):
        gate = gate_with(("stop", box_with(turn=1)))
        gate.take(0, HOUSE)
        gate.take(0, HOUSE, True)
        gate.take(0, flip(HOUSE), True)
        self.stands(gate, (HOUSE, HOUSE, True, 100))


class TheBook(Case):
    def test_read_for_each_turn(self):
        # Of each turn alone: which of a new label, the same again, its answer, and the same behind that goes out.
        for turn, told in ((0, ["pass", "stop", "stop", "stop"]), (1, ["stop", "stop", "stop", "stop"])):
            gate = gate_with(("pass", box_with(turn=turn)), default="stop")
            words = [gate.take(0, label)[0] for label in (HOUSE, HOUSE, flip(HOUSE), HOUSE)]
            self.assertEqual(words, told)
        for turn, told in ((0, ["stop", "stop", "stop", "stop"]), (1, ["pass", "stop", "pass", "pass"]),
                           (2, ["pass", "pass", "pass", "stop"]), (3, ["pass", "pass", "stop", "pass"])):
            gate = gate_with(("stop", box_with(turn=turn)))
            words = [gate.take(0, label)[0] for label in (HOUSE, HOUSE, flip(HOUSE), HOUSE)]
            self.assertEqual(words, told, turn)

    def test_read_for_the_label_as_it_comes(self):
        sent = (6, 99, 5, 20, 80)
        gate = gate_with(("stop", box_with(sender=99)), ("stop", box_with(receiver=10)), changes=[OUTWARD])
        self.assertEqual(gate.take(0, HOUSE), ("pass", sent))
        self.assertEqual(gate.take(0, HOUSE), ("pass", sent))
        self.assertEqual(gate.take(0, flip(sent)), ("pass", flip(HOUSE)))
        gate = gate_with(("stop", box_with(sender=10)), changes=[OUTWARD])
        self.assertEqual(gate.take(0, HOUSE), ("stop", None))
        gate = gate_with(("stop", box_with(receiver=99)), changes=[OUTWARD])
        self.assertEqual(gate.take(0, HOUSE), ("pass", sent))
        self.assertEqual(gate.take(0, flip(sent)), ("stop", None))

    def test_each_part_of_the_parcel(self):
        parcel = (0,) + HOUSE
        for place in range(6):
            box = EVERY[:place] + ((parcel[place], parcel[place]),) + EVERY[place + 1:]
            self.assertEqual(gate_with(("stop", box)).take(0, HOUSE), ("stop", None))
            beside = EVERY[:place] + ((parcel[place] + 1, parcel[place] + 1),) + EVERY[place + 1:]
            self.assertEqual(gate_with(("stop", beside)).take(0, HOUSE), ("pass", HOUSE))

    def test_chain_within_chain(self):
        book = Book("stop", [("main", [("call", box_with(kind=6), "house"), ("pass", box_with(kind=17))]),
                             ("house", [("back", box_with(sender=30)), ("pass", EVERY)])])
        gate = Gate(book, [], 10, 100, 9)
        self.assertEqual([gate.take(0, label)[0] for label in (HOUSE, WORLD, OTHER, (1, 1, 1, 2, 2))],
                         ["pass", "stop", "pass", "stop"])


class GoesOn(Case):
    def test_onward(self):
        gate = gate_with(changes=[OUTWARD])
        sent = (6, 99, 5, 20, 80)
        self.assertEqual(gate.take(0, HOUSE), ("pass", sent))
        for moment in (3, 13):
            self.assertEqual(gate.take(moment, HOUSE), ("pass", sent))
            self.stands(gate, (HOUSE, sent, False, moment + 10))

    def test_back(self):
        gate = gate_with(changes=[OUTWARD])
        sent = (6, 99, 5, 20, 80)
        gate.take(0, HOUSE)
        self.assertEqual(gate.take(4, flip(sent)), ("pass", flip(HOUSE)))
        self.stands(gate, (HOUSE, sent, True, 104))
        self.assertEqual(gate.take(104, HOUSE), ("pass", sent))
        self.stands(gate, (HOUSE, sent, True, 204))

    def test_farewells_of_both_sides(self):
        for sides in ((HOUSE, flip(HOUSE)), (flip(HOUSE), HOUSE)):
            gate = gate_with()
            gate.take(0, HOUSE)
            for number, label in enumerate(sides):
                self.assertEqual(gate.take(1, label, True), ("pass", HOUSE if label == HOUSE else flip(HOUSE)))
                self.assertEqual(len(gate.standing()), 1 - number)
            self.assertEqual((gate.turn(HOUSE), gate.turn(flip(HOUSE))), (0, 0))

    def test_farewells_of_one_side_alone(self):
        for label in (HOUSE, flip(HOUSE)):
            gate = gate_with()
            for number in range(3):
                gate.take(0, HOUSE)
                gate.take(0, label, True)
            self.assertEqual(len(gate.standing()), 1)

    def test_a_full_gate_lets_its_talks_go_on(self):
        gate = gate_with(most=1)
        gate.take(0, HOUSE)
        self.assertEqual(gate.take(0, OTHER), ("full", None))
        self.assertEqual(gate.take(0, HOUSE), ("pass", HOUSE))
        self.assertEqual(gate.take(0, flip(HOUSE)), ("pass", flip(HOUSE)))

    def test_last_left_out(self):
        gate = gate_with()
        for label in (HOUSE, flip(HOUSE), HOUSE, flip(HOUSE)):
            gate.take(0, label)
        self.stands(gate, (HOUSE, HOUSE, True, 100))
        gate.take(0, flip(HOUSE), True)
        gate.take(0, HOUSE)
        self.stands(gate, (HOUSE, HOUSE, True, 100))
        gate.take(0, HOUSE, last=True)
        self.stands(gate)


class FullGate(Case):
    def test_as_many_as_most(self):
        for most in (1, 2, 100):
            gate = gate_with(most=most)
            labels = [(number, 1, 2, 3, 4) for number in range(most + 1)]
            for label in labels[:-1]:
                self.assertEqual(gate.take(0, label), ("pass", label))
            for last in (False, True):
                self.assertEqual(gate.take(0, labels[-1], last), ("full", None))
            self.stands(gate, *[(label, label, False, 10) for label in labels[:-1]])
            self.assertEqual(gate.turn(labels[-1]), 0)

    def test_no_choice(self):
        gate = gate_with()
        self.assertEqual(gate.take(0, OWN_FLIP), ("full", None))
        self.stands(gate)

    def test_no_door_is_free(self):
        gate = gate_with(changes=[OUTWARD, ("from", labels_with(), 98, (1, 9))])
        labels = [(6, 10, door, 20, 80) for door in (1, 2, 3)]
        self.assertEqual([gate.take(0, label) for label in labels],
                         [("pass", (6, 99, 5, 20, 80)), ("pass", (6, 99, 6, 20, 80)), ("full", None)])
        self.assertEqual(len(gate.standing()), 2)
        # Other receivers have doors of their own.
        self.assertEqual(gate.take(0, (6, 10, 3, 21, 80)), ("pass", (6, 99, 5, 21, 80)))

    def test_a_door_is_free_again(self):
        gate = gate_with(changes=[OUTWARD])
        for door in (1, 2):
            gate.take(door, (6, 10, door, 20, 80))
        self.assertEqual(gate.take(11, (6, 10, 3, 20, 80)), ("full", None))
        self.assertEqual(gate.take(12, (6, 10, 3, 20, 80)), ("pass", (6, 99, 5, 20, 80)))

    def test_the_flip_of_a_label_that_was_changed(self):
        # It is no key of the talk, so it is a label like any other.
        gate = gate_with(changes=[OUTWARD])
        gate.take(0, HOUSE)
        self.assertEqual(gate.turn(flip(HOUSE)), 0)
        self.assertEqual(gate.take(0, flip(HOUSE)), ("full", None))


class Begun(Case):
    def test_by_the_label_and_the_choice(self):
        gate = gate_with(changes=[OUTWARD, INWARD])
        self.assertEqual(gate.take(2, HOUSE), ("pass", (6, 99, 5, 20, 80)))
        self.assertEqual(gate.take(3, WORLD), ("pass", (6, 30, 50000, 11, 8443)))
        self.assertEqual(gate.take(4, OTHER), ("pass", OTHER))
        self.stands(gate, (HOUSE, (6, 99, 5, 20, 80), False, 12), (WORLD, (6, 30, 50000, 11, 8443), False, 13),
                    (OTHER, OTHER, False, 14))

    def test_its_farewell_is_said_onward(self):
        gate = gate_with(changes=[OUTWARD])
        sent = (6, 99, 5, 20, 80)
        self.assertEqual(gate.take(2, HOUSE, True), ("pass", sent))
        self.stands(gate, (HOUSE, sent, False, 12))
        self.assertEqual((gate.turn(HOUSE), gate.turn(flip(sent))), (1, 3))
        self.assertEqual(gate.take(3, HOUSE, True), ("pass", sent))
        self.stands(gate, (HOUSE, sent, False, 13))
        self.assertEqual(gate.take(4, flip(sent), True), ("pass", flip(HOUSE)))
        self.stands(gate)

    def test_without_one_none_is_said(self):
        for takes in ((HOUSE,), (HOUSE, False)):
            gate = gate_with()
            gate.take(0, *takes)
            gate.take(0, flip(HOUSE), True)
            self.stands(gate, (HOUSE, HOUSE, True, 100))
            gate.take(0, HOUSE, True)
            self.stands(gate)

    def test_anew_when_the_talk_is_over(self):
        gate = gate_with(changes=[OUTWARD])
        gate.take(0, HOUSE, True)
        self.assertEqual(gate.take(11, HOUSE), ("pass", (6, 99, 5, 20, 80)))
        gate.take(11, (6, 20, 80, 99, 5), True)
        self.stands(gate, (HOUSE, (6, 99, 5, 20, 80), True, 111))


class AnswersComeBack(Case):
    def comes_back(self, gate, label, sent):
        self.assertEqual(gate.take(0, label), ("pass", sent))
        for moment in (1, 50, 150):
            self.assertEqual(gate.take(moment, flip(sent)), ("pass", flip(label)))
            self.assertEqual(gate.take(moment, label), ("pass", sent))

    def test_unchanged(self):
        self.comes_back(gate_with(), HOUSE, HOUSE)

    def test_changed_on_either_side(self):
        self.comes_back(gate_with(changes=[OUTWARD]), HOUSE, (6, 99, 5, 20, 80))
        self.comes_back(gate_with(changes=[INWARD]), WORLD, (6, 30, 50000, 11, 8443))

    def test_two_houses_behind_one_address(self):
        gate = gate_with(changes=[("from", labels_with(sender=(10, 19)), 99, (5, 9))])
        labels = [(6, sender, 40000, 20, 80) for sender in (10, 11, 12)]
        went = [gate.take(0, label)[1] for label in labels]
        self.assertEqual(went, [(6, 99, door, 20, 80) for door in (5, 6, 7)])
        for label, sent in zip(labels[::-1], went[::-1]):
            self.assertEqual(gate.take(1, flip(sent)), ("pass", flip(label)))

    def test_only_while_it_stands(self):
        gate = gate_with(changes=[OUTWARD])
        gate.take(0, HOUSE)
        answer = (6, 20, 80, 99, 5)
        self.assertEqual(gate.take(11, answer), ("pass", answer))
        self.stands(gate, (answer, answer, False, 21))


class Kept(Case):
    def test_changes_stay(self):
        changes = [OUTWARD, INWARD]
        gate = Gate(book_of("pass"), changes, 10, 100, 9)
        for label in (HOUSE, WORLD, OTHER):
            gate.take(0, label)
        self.assertEqual(changes, [OUTWARD, INWARD])

    def test_what_is_done_to_the_list_behind(self):
        changes = [OUTWARD]
        gate = Gate(book_of("pass"), changes, 10, 100, 9)
        changes.insert(0, ("to", labels_with(), 1, (1, 1)))
        self.assertEqual(gate.take(0, HOUSE), ("pass", (6, 99, 5, 20, 80)))
        changes.clear()
        self.assertEqual(gate.take(0, (6, 10, 1, 20, 80)), ("pass", (6, 99, 6, 20, 80)))

    def test_what_is_done_to_the_book_behind(self):
        book = book_of("pass", ("stop", box_with(kind=17)))
        gate = Gate(book, [], 10, 100, 9)
        book.default = "stop"
        book.told()[1].clear()
        book.chain("main").clear()
        self.assertEqual(gate.take(0, HOUSE), ("pass", HOUSE))
        self.assertEqual(gate.take(0, OTHER), ("stop", None))
        self.assertEqual(book.told(), ("stop", [("main", [("stop", box_with(kind=17))])]))

    def test_the_list_of_talks_is_the_askers_own(self):
        gate = gate_with()
        gate.take(0, HOUSE)
        first = gate.standing()
        gate.standing().clear()
        gate.take(1, flip(HOUSE))
        self.assertEqual(first, [(HOUSE, HOUSE, False, 10)])
        self.stands(gate, (HOUSE, HOUSE, True, 101))

    def test_two_gates_beside_each_other(self):
        book = book_of("pass")
        one, other = Gate(book, [OUTWARD], 10, 100, 1), Gate(book, [OUTWARD], 20, 200, 2)
        one.take(5, HOUSE)
        self.stands(other)
        self.assertEqual(other.take(0, HOUSE), ("pass", (6, 99, 5, 20, 80)))
        self.stands(one, (HOUSE, (6, 99, 5, 20, 80), False, 15))
        self.stands(other, (HOUSE, (6, 99, 5, 20, 80), False, 20))


class Kinds(unittest.TestCase):
    def test_arguments(self):
        self.assertEqual(list(inspect.signature(Gate).parameters), ["book", "changes", "short", "long", "most"])
        gate = gate_with()
        self.assertEqual(list(inspect.signature(gate.turn).parameters), ["label"])
        self.assertEqual(list(inspect.signature(gate.take).parameters), ["moment", "label", "last"])
        self.assertIs(inspect.signature(gate.take).parameters["last"].default, False)
        self.assertEqual(list(inspect.signature(gate.standing).parameters), [])

    def test_kinds(self):
        gate = gate_with(("stop", box_with(kind=17)), changes=[OUTWARD])
        for label in (HOUSE, HOUSE, (6, 20, 80, 99, 5), OTHER, OWN_FLIP):
            told = gate.take(1, label)
            self.assertEqual([type(told), len(told), type(told[0])], [tuple, 2, str])
            if told[0] == "pass":
                self.assertEqual([type(part) for part in (told[1],) + told[1]], [tuple] + 5 * [int])
            else:
                self.assertIsNone(told[1])
            self.assertIs(type(gate.turn(label)), int)
        self.assertIs(type(gate.standing()), list)
        for talk in gate.standing():
            self.assertEqual([type(part) for part in (talk,) + talk], [tuple, tuple, tuple, bool, int])


class ManyTakes(unittest.TestCase):
    def answer_of(self, gate, moment, label, last):
        """What the gate tells; its time where the moment is less."""
        try:
            return gate.take(moment, label, last)
        except OutOfTime as error:
            return error.moment

    def drawn(self, chance):
        """What a gate is made of, drawn so that few labels meet often."""
        rules = [(chance.choice(("pass", "stop")), box_with(turn=tuple(sorted(chance.choices(range(4), k=2))),
                                                            sender=tuple(sorted(chance.choices(range(4), k=2)))))
                 for number in range(chance.randint(0, 3))]
        changes = [(chance.choice(("from", "to")), labels_with(sender=tuple(sorted(chance.choices(range(4), k=2)))),
                    chance.randint(1, 4), tuple(sorted(chance.choices(range(4), k=2))))
                   for number in range(chance.randint(0, 3))]
        return (chance.choice(("pass", "pass", "stop")), rules, changes,
                chance.randint(1, 9), chance.randint(1, 20), chance.randint(1, 6))

    def test_many_takes_by_chance(self):
        seen = {}
        for seed in range(250):
            chance = random.Random(seed)
            parts = self.drawn(chance)
            chains = [("main", parts[1])]
            model = GateModel(lambda parcel: read_plainly(dict(chains), "main", parcel, []) or parts[0], *parts[2:])
            gate = Gate(Book(parts[0], chains), *parts[2:])
            labels = [(6,) + tuple(chance.randint(0, 3) for place in range(4)) for number in range(6)]
            for step in range(60):
                went = [flip(talk["sent"]) for talk in model.standing()]
                label = chance.choice(labels + went + went)
                moment = model.time + chance.choice((-1, 0, 0, 1, 1, 2, 5))
                last = chance.random() < 0.3
                turn = model.turn(label)
                told = self.answer_of(gate, moment, label, last)
                self.assertEqual(told, model.take(moment, label, last))
                self.assertEqual(gate.standing(), [(talk["label"], talk["sent"], talk["answered"], talk["until"])
                                                   for talk in model.standing()])
                self.assertEqual([gate.turn(one) for one in labels + went], [model.turn(one) for one in labels + went])
                sort = (turn, told[0]) if isinstance(told, tuple) else "late"
                seen[sort] = seen.get(sort, 0) + 1
        for sort in ["late", (0, "full")] + [(turn, word) for turn in range(4) for word in ("pass", "stop")]:
            self.assertGreater(seen.get(sort, 0), 40, (sort, seen))


if __name__ == "__main__":
    unittest.main()
