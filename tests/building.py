"""Boxes, parcels and books for the tests, built without the readers that are tested."""

import random

ADDRESS = 4294967295
WHOLE = {
    "turn": (0, 3),
    "kind": (0, 255),
    "sender": (0, ADDRESS),
    "sender_door": (0, 65535),
    "receiver": (0, ADDRESS),
    "receiver_door": (0, 65535),
}
PLACES = tuple(WHOLE)
EVERY = tuple(WHOLE.values())


def box_with(**stretches):
    """The box of all parcels but for the stretches that are told; a number stands for itself alone."""
    wide = {name: (told, told) if isinstance(told, int) else told for name, told in stretches.items()}
    return tuple({**WHOLE, **wide}[name] for name in PLACES)


def parcel_with(**numbers):
    """A parcel of noughts but for the numbers that are told."""
    return tuple(numbers.get(name, 0) for name in PLACES)


def labels_with(**stretches):
    """The box of all labels but for the stretches that are told."""
    return box_with(**stretches)[1:]


def lies_in(box, parcel):
    return all(low <= number <= high for (low, high), number in zip(box, parcel))


def stretch_by_chance(chance, whole):
    """Mostly the whole stretch, so that boxes meet often; else one with ends among few numbers."""
    if chance.random() < 0.85:
        return whole
    marks = sorted(chance.choice((0, 1, 2, whole[1] // 2, whole[1] - 1, whole[1])) for side in range(2))
    return (marks[0], marks[1])


def box_by_chance(chance):
    return tuple(stretch_by_chance(chance, WHOLE[name]) for name in PLACES)


def rule_by_chance(chance, later):
    """A rule that calls, if it does, one of the later names, so that no ring comes about."""
    head = chance.choice(("pass", "stop", "back", "call", "call", "call") if later else ("pass", "stop", "back"))
    box = box_by_chance(chance)
    return (head, box, chance.choice(later)) if head == "call" else (head, box)


def length_of(chains, name):
    rules = dict(chains)[name]
    return len(rules) + sum(length_of(chains, rule[2]) for rule in rules if rule[0] == "call")


def chains_by_chance(chance):
    """Chains of which main is at most 120 long."""
    while True:
        names = ["main", "a", "pass", "chain", "from", "abcdefghijkl"][:chance.randint(1, 6)]
        chains = [(name, [rule_by_chance(chance, names[place + 1:]) for number in range(chance.randint(0, 7))])
                  for place, name in enumerate(names)]
        if length_of(chains, "main") <= 120:
            return chains[:1] + chance.sample(chains[1:], len(chains) - 1)


def books_by_chance(seed, count):
    """Tuples (default, chains), always the same for one seed."""
    chance = random.Random(seed)
    return [(chance.choice(("pass", "stop")), chains_by_chance(chance)) for number in range(count)]


def parcels_about(chains, seed, count):
    """Parcels at the ends of the stretches of the chains' boxes, and one off."""
    chance = random.Random(seed)
    boxes = [rule[1] for name, rules in chains for rule in rules] + [EVERY]
    told = []
    for number in range(count):
        numbers = []
        for place, (low, high) in enumerate(EVERY):
            ends = chance.choice(boxes)[place]
            near = chance.choice(ends) + chance.choice((-1, 0, 0, 0, 1))
            numbers.append(min(max(near, low), high))
        told.append(tuple(numbers))
    return told


def read_plainly(chains, name, parcel, steps):
    """The word that a chain comes to, or None; each rule that is looked at is put behind the steps."""
    for index, rule in enumerate(chains[name]):
        fits = lies_in(rule[1], parcel)
        steps.append((name, index, fits))
        if not fits:
            continue
        if rule[0] in ("pass", "stop"):
            return rule[0]
        if rule[0] == "back":
            return None
        word = read_plainly(chains, rule[2], parcel, steps)
        if word is not None:
            return word
    return None


def common_plainly(box, other):
    both = tuple((max(one[0], two[0]), min(one[1], two[1])) for one, two in zip(box, other))
    return both if all(low <= high for low, high in both) else None


def looked_plainly(rows, default, box, step=0, way=()):
    """What point 23 tells of a box, each piece followed by a call of its own."""
    if step == len(rows) or isinstance(step, str):
        return [(box, list(way), default if step == len(rows) else step)]
    name, index, other, yes, no = rows[step]
    both = common_plainly(box, other)
    if both is None:
        return looked_plainly(rows, default, box, no, way + ((step, False),))
    told = looked_plainly(rows, default, both, yes, way + ((step, True),))
    for place, (low, high) in enumerate(box):
        for side in ((low, both[place][0] - 1), (both[place][1] + 1, high)):
            if side[0] <= side[1]:
                rest = both[:place] + (side,) + box[place + 1:]
                told += looked_plainly(rows, default, rest, no, way + ((step, False),))
    return told


def small_books_by_chance(seed, count):
    """Books of few rules that look at turn and kind alone, with ends among few numbers; many are alike."""
    chance = random.Random(seed)
    books = []
    for number in range(count):
        names = ["main", "a", "b"][:chance.randint(1, 3)]
        chains = []
        for place, name in enumerate(names):
            rules = []
            for index in range(chance.randint(0, 4)):
                head = rule_by_chance(chance, names[place + 1:])
                turns = sorted(chance.choices((0, 1, 3), k=2))
                kinds = sorted(chance.choices((0, 1, 2, 255), k=2))
                rules.append(head[:1] + (box_with(turn=tuple(turns), kind=tuple(kinds)),) + head[2:])
            chains.append((name, rules))
        books.append((chance.choice(("pass", "stop")), chains))
    return books


# One parcel at least of each sort that the small books can tell from one another.
GRID = [parcel_with(turn=turn, kind=kind) for turn in range(4) for kind in (0, 1, 2, 3, 254, 255)]


def lists_within(told):
    """Each list in what is told, and this itself if it is one."""
    found = [told] if isinstance(told, list) else []
    if isinstance(told, (list, tuple)):
        for part in told:
            found += lists_within(part)
    return found


def flip_plainly(label):
    return label[:1] + label[3:] + label[1:3]


def changed_plainly(label, side, address, door):
    return label[:1] + (address, door) + label[3:] if side == "from" else label[:3] + (address, door)


class GateModel:
    """A gate told anew from points 30 to 38, with every talk that ever was; the word is asked of each parcel."""

    def __init__(self, word, changes, short, long, most):
        self.word, self.changes = word, changes
        self.short, self.long, self.most, self.time, self.talks = short, long, most, 0, []

    def standing(self):
        return [talk for talk in self.talks if talk["until"] >= self.time and talk["said"] != {"onward", "back"}]

    def going(self, label):
        """The talk and the side by which the label goes."""
        for talk in self.standing():
            if label == flip_plainly(talk["sent"]):
                return talk, "back"
            if label == talk["label"]:
                return talk, "onward"
        return None, None

    def turn(self, label):
        talk, side = self.going(label)
        return 0 if talk is None else 3 if side == "back" else 2 if talk["answered"] else 1

    def choice(self, label):
        keys = [key for talk in self.standing() for key in (talk["label"], flip_plainly(talk["sent"]))]
        tried = [[changed_plainly(label, side, address, door) for door in range(doors[0], doors[1] + 1)]
                 for side, box, address, doors in self.changes if lies_in(box, label)]
        free = [sent for sent in (tried + [[label]])[0]
                if label not in keys and flip_plainly(sent) not in keys and label != flip_plainly(sent)]
        return (free + [None])[0]

    def take(self, moment, label, last):
        """What the gate tells; its time where the moment is less."""
        if moment < self.time:
            return self.time
        self.time = moment
        if self.word((self.turn(label),) + label) == "stop":
            return ("stop", None)
        talk, side = self.going(label)
        if talk is None:
            return self.begin(label, last)
        talk["answered"] |= side == "back"
        talk["until"] = self.time + (self.long if talk["answered"] else self.short)
        talk["said"] |= {side} if last else set()
        return ("pass", flip_plainly(talk["label"]) if side == "back" else talk["sent"])

    def begin(self, label, last):
        sent = self.choice(label)
        if len(self.standing()) == self.most or sent is None:
            return ("full", None)
        self.talks.append({"label": label, "sent": sent, "answered": False, "until": self.time + self.short,
                           "said": {"onward"} if last else set()})
        return ("pass", sent)


def address_text(address):
    return ".".join(str(address // 256 ** place % 256) for place in (3, 2, 1, 0))


def label_text(label):
    kind, sender, sender_door, receiver, receiver_door = label
    return f"{kind} {address_text(sender)} {sender_door} {address_text(receiver)} {receiver_door}"


def parcel_text(parcel):
    return f"{parcel[0]} {label_text(parcel[1:])}"


def pairs_text(box, words):
    """All pairs of a box, whole stretches too, each with `-` between."""
    shown = [address_text if word in ("from", "to") else str for word in words]
    return " ".join(f"{word} {show(low)}-{show(high)}" for word, show, (low, high) in zip(words, shown, box))


RULE_PAIRS = ("turn", "kind", "from", "fromdoor", "to", "todoor")


def rule_text(told):
    return " ".join(told[:1] + told[2:] + (pairs_text(told[1], RULE_PAIRS),))


def book_text(default, chains):
    rows = ["default " + default]
    for name, rules in chains:
        rows += ([] if name == "main" else ["chain " + name]) + [rule_text(told) for told in rules]
    return "\n".join(rows)


def change_text(change):
    side, box, address, doors = change
    return f"{side} {address_text(address)} {doors[0]}-{doors[1]} {pairs_text(box, RULE_PAIRS[1:])}"
