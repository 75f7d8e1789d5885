"""Talks, and the table that keeps those that stand."""

from sieve.errors import Full, NoTalk, OutOfTime, Taken


def flip(label):
    """The label with sender and receiver, and their doors, in each other's places."""
    return (label[0], label[3], label[4], label[1], label[2])


class Talk:
    """A talk: its keys onward and back, the label as it was sent, and up to when it stands."""

    def __init__(self, label, sent, until):
        self.onward = label
        self.sent = sent
        self.back = flip(sent)
        self.answered = False
        self.until = until
        self.farewells = {}

    def has_both_farewells(self):
        """Whether both sides, onward and back, have said one."""
        return self.onward in self.farewells and self.back in self.farewells

    def outgoing(self, label):
        """The label as a parcel goes out that came by this key."""
        return flip(self.onward) if label == self.back else self.sent


class Table:
    """The talks that stand, by a time that never goes back."""

    def __init__(self, short, long, most):
        self.short = short
        self.long = long
        self.most = most
        self.time = 0
        self.talks = []
        self.by_key = {}

    def keep(self, talks):
        """Keeps these talks alone."""
        self.talks = talks
        self.by_key = {}
        for talk in talks:
            self.by_key[talk.onward] = talk
            self.by_key[talk.back] = talk

    def at(self, moment):
        """Sets the time; OutOfTime where it would go back."""
        if moment < self.time:
            raise OutOfTime(self.time)
        self.time = moment
        self.keep([talk for talk in self.talks if moment <= talk.until])

    def turn(self, label):
        """3 where a talk goes back by the label, 2 or 1 where one goes onward, answered or not, else 0."""
        if label not in self.by_key:
            return 0
        talk = self.by_key[label]
        if label == talk.back:
            return 3
        return 2 if talk.answered else 1

    def free(self, label, sent):
        """Whether a talk of these two would have keys of its own, unlike one another."""
        back = flip(sent)
        return label != back and label not in self.by_key and back not in self.by_key

    def begin(self, label, sent):
        """Begins a talk; Full where no more may stand, Taken where the two are not free."""
        if self.is_full():
            raise Full("as many talks stand as may")
        if not self.free(label, sent):
            raise Taken(f"a talk of {label!r} and {sent!r} would not have keys of its own")
        self.keep(self.talks + [Talk(label, sent, self.time + self.short)])

    def go_on(self, label, last):
        """Goes on with a talk, the last time from this side if so told; the label as the parcel goes out."""
        if label not in self.by_key:
            raise NoTalk(f"no talk goes by {label!r}")
        talk = self.by_key[label]
        talk.answered = talk.answered or label == talk.back
        talk.until = self.time + (self.long if talk.answered else self.short)
        if last:
            talk.farewells[label] = True
        if talk.has_both_farewells():
            self.keep([other for other in self.talks if other.onward != talk.onward])
        return talk.outgoing(label)

    def is_full(self):
        """Whether as many talks stand as may."""
        return len(self.talks) >= self.most

    def standing(self):
        """The talks that stand, in the order of their beginning, as tuples (label, sent, answered, until)."""
        return [(talk.onward, talk.sent, talk.answered, talk.until) for talk in self.talks]
