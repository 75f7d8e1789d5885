"""Point 3: books, gates and the desk together, from texts to answers, over many drawn parcels."""

import random
import unittest

from building import (GRID, GateModel, book_text, books_by_chance, box_with, change_text, flip_plainly, label_text,
                      labels_with, parcel_text, parcels_about, read_plainly, small_books_by_chance)
from sieve.desk import Desk
from sieve.errors import OutOfTime
from sieve.slips import read_parcel


def word_plainly(book, parcel):
    """The word of a parcel by a tuple (default, chains)."""
    return read_plainly(dict(book[1]), "main", parcel, []) or book[0]


def path_plainly(book, parcel):
    """The answer of the desk to `path`, told anew."""
    steps = []
    word = read_plainly(dict(book[1]), "main", parcel, steps) or book[0]
    return " ".join([f"{name} {index}" for name, index, fits in steps if fits] + [word])


def never_plainly(book, parcels):
    """The answer of the desk to `never`, where the parcels have one at least of each sort."""
    met = set()
    for parcel in parcels:
        steps = []
        read_plainly(dict(book[1]), "main", parcel, steps)
        met |= {(name, index) for name, index, fits in steps if fits}
    lacking = [f"{name} {index}" for name, rules in book[1] for index in range(len(rules)) if (name, index) not in met]
    return " ".join(lacking) or "none"


class Words(unittest.TestCase):
    def test_many_books_and_parcels(self):
        desk = Desk()
        for number, book in enumerate(books_by_chance(40, 150)):
            desk.say("book a\n" + book_text(*book))
            for parcel in parcels_about(book[1], number, 15):
                self.assertEqual(desk.say("word a " + parcel_text(parcel)), word_plainly(book, parcel))
                self.assertEqual(desk.say("path a " + parcel_text(parcel)), path_plainly(book, parcel))

    def test_a_shown_book_is_read_again_alike(self):
        desk = Desk()
        for book in small_books_by_chance(41, 100):
            desk.say("book a\n" + book_text(*book))
            desk.say("book b\n" + desk.say("show a"))
            self.assertEqual(desk.say("show b"), desk.say("show a"))
            self.assertEqual(desk.say("alike a b"), "alike")


class Compared(unittest.TestCase):
    def test_many_pairs_of_books(self):
        desk = Desk()
        seen = {"alike": 0, "unlike": 0}
        books = small_books_by_chance(42, 300)
        for one, other in zip(books, books[1:]):
            desk.say("book one\n" + book_text(*one))
            desk.say("book other\n" + book_text(*other))
            answer = desk.say("alike one other")
            unlike = [parcel for parcel in GRID if word_plainly(one, parcel) != word_plainly(other, parcel)]
            self.assertEqual(answer == "alike", unlike == [])
            if answer != "alike":
                parcel = read_parcel(answer.split(" "))
                self.assertNotEqual(word_plainly(one, parcel), word_plainly(other, parcel))
                self.assertNotEqual(desk.say("word one " + answer), desk.say("word other " + answer))
            seen["alike" if answer == "alike" else "unlike"] += 1
        self.assertGreater(min(seen.values()), 10, seen)


class Shortened(unittest.TestCase):
    def test_many_books(self):
        desk = Desk()
        seen = {"none": 0, "some": 0}
        for book in small_books_by_chance(43, 300):
            desk.say("book a\n" + book_text(*book))
            never = desk.say("never a")
            self.assertEqual(never, never_plainly(book, GRID))
            length = desk.say("shorter b a")
            self.assertEqual(desk.say("alike a b"), "alike")
            self.assertEqual(desk.say("never b"), "none")
            text = desk.say("show b")
            self.assertEqual(desk.say("shorter b b"), length)
            self.assertEqual(desk.say("show b"), text)
            for parcel in GRID:
                self.assertEqual(desk.say("word b " + parcel_text(parcel)), word_plainly(book, parcel))
            seen["none" if never == "none" else "some"] += 1
        self.assertGreater(min(seen.values()), 50, seen)


class Gates(unittest.TestCase):
    def few(self, chance):
        """A stretch with ends among few numbers."""
        return tuple(sorted(chance.choices(range(4), k=2)))

    def book_by_chance(self, chance):
        """A book of two chains that mostly passes, and looks at turns and senders."""
        def rules(heads):
            return [(chance.choice(heads), box_with(turn=self.few(chance), sender=self.few(chance))) for number in range(2)]
        main = rules(("pass", "stop", "back")) + [("call", box_with(receiver=self.few(chance)), "guests")]
        return ("pass", [("main", chance.sample(main, 3)), ("guests", rules(("pass", "stop", "back")))])

    def changes_by_chance(self, chance):
        return [(chance.choice(("from", "to")), labels_with(sender=self.few(chance)), chance.randint(2, 5), self.few(chance))
                for number in range(chance.randint(0, 3))]

    def answer_of(self, desk, text):
        """What the desk answers; the gate's time where the moment is less."""
        try:
            return desk.say(text)
        except OutOfTime as error:
            return error.moment

    def text_of(self, told):
        """The answer that the desk owes for what the model tells."""
        if isinstance(told, tuple):
            return told[0] if told[1] is None else f"{told[0]} {label_text(told[1])}"
        return told

    def test_many_takes(self):
        seen = {}
        for seed in range(120):
            chance = random.Random(seed)
            book, changes = self.book_by_chance(chance), self.changes_by_chance(chance)
            bounds = (chance.randint(1, 9), chance.randint(1, 20), chance.randint(1, 6))
            desk, model = Desk(), GateModel(lambda parcel: word_plainly(book, parcel), changes, *bounds)
            desk.say("book a\n" + book_text(*book))
            desk.say("\n".join(["gate a " + " ".join(map(str, bounds))] + [change_text(change) for change in changes]))
            labels = [(6,) + tuple(chance.randint(0, 3) for place in range(4)) for number in range(6)]
            for step in range(50):
                label = chance.choice(labels + 2 * [flip_plainly(talk["sent"]) for talk in model.standing()])
                moment, last = model.time + chance.choice((-1, 0, 0, 1, 1, 2, 5)), chance.random() < 0.2
                turn = model.turn(label)
                told = model.take(max(moment, 0), label, last)
                text = f"take a {max(moment, 0)} {label_text(label)}{' last' if last else ''}"
                self.assertEqual(self.answer_of(desk, text), self.text_of(told))
                self.assertEqual(desk.say("talks a"), str(len(model.standing())))
                sort = (turn, told[0]) if isinstance(told, tuple) else "late"
                seen[sort] = seen.get(sort, 0) + 1
        for sort in ["late", (0, "full")] + [(turn, word) for turn in range(4) for word in ("pass", "stop")]:
            self.assertGreater(seen.get(sort, 0), 20, (sort, seen))

    def test_answers_find_their_way_back(self):
        changed_on_its_way = 0
        for seed in range(120):
            chance = random.Random(seed)
            desk = Desk()
            desk.say("book a\ndefault pass")
            changes = self.changes_by_chance(chance)
            desk.say("\n".join(["gate a 5 9 100"] + [change_text(change) for change in changes]))
            went = {}
            for number in range(20):
                label = (number % 2,) + tuple(chance.randint(0, 3) for place in range(4))
                taken = [key for came, sent in went.items() for key in (came, flip_plainly(sent))]
                answer = desk.say("take a 0 " + label_text(label))
                if label not in taken and answer != "full":
                    went[label] = read_parcel(["0"] + answer.split(" ")[1:])[1:]
                    changed_on_its_way += went[label] != label
            for moment in (4, 12):
                for label, sent in went.items():
                    back = desk.say(f"take a {moment} {label_text(flip_plainly(sent))}")
                    self.assertEqual(back, "pass " + label_text(flip_plainly(label)))
                    self.assertEqual(desk.say(f"take a {moment} {label_text(label)}"), "pass " + label_text(sent))
            self.assertEqual(desk.say("talks a"), str(len(went)))
        self.assertGreater(changed_on_its_way, 300)


if __name__ == "__main__":
    unittest.main()
