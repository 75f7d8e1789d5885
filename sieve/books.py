"""Books: a default word and chains of rules, of which the first is called main."""

from sieve.errors import NoChain, Ring, TooLong, TwoChains
from sieve.rules import Call, rule_of

MAIN = "main"
MOST_LENGTH = 120


def called_names(rules):
    """The names that the rules call, in order, each as often as it is called."""
    return [rule.name for rule in rules if isinstance(rule, Call)]


def refuse_two_chains(names):
    """Refuses the first name that a chain ahead has."""
    for place, name in enumerate(names):
        if name in names[:place]:
            raise TwoChains(name)


def refuse_missing_chains(chains):
    """Refuses the first name that a rule calls and no chain has."""
    for name in chains:
        for called in called_names(chains[name]):
            if called not in chains:
                raise NoChain(called)


def ready_names(chains, lengths):
    """The chains that have no length yet, but all whose called chains have one."""
    ready = []
    for name in chains:
        lacking = [called for called in called_names(chains[name]) if called not in lengths]
        if name not in lengths and lacking == []:
            ready.append(name)
    return ready


def chain_lengths(chains):
    """The length of each chain from which no call leads into a ring, by name."""
    lengths = {}
    ready = ready_names(chains, lengths)
    # Each chain is measured once, behind those that it calls: calls within calls
    # can make a length so great that rules could not be counted one by one.
    while ready != []:
        for name in ready:
            rules = chains[name]
            lengths[name] = len(rules) + sum([lengths[called] for called in called_names(rules)])
        ready = ready_names(chains, lengths)
    return lengths


def first_unmeasured(names, lengths):
    """The first of the names that has no length."""
    return [name for name in names if name not in lengths][0]


def ring_among(chains, lengths):
    """The names of one ring of calls, where some chain has no length."""
    walked = []
    name = first_unmeasured(list(chains), lengths)
    # A chain without a length calls another one without, so the walk must come round.
    while name not in walked:
        walked.append(name)
        name = first_unmeasured(called_names(chains[name]), lengths)
    return walked[walked.index(name):]


class Book:
    """A default word and chains of rules, by which parcels are read."""

    def __init__(self, default, chains):
        refuse_two_chains([name for name, rules in chains])
        kept = {}
        for name, rules in chains:
            kept[name] = [rule_of(told) for told in rules]
        refuse_missing_chains(kept)
        lengths = chain_lengths(kept)
        if len(lengths) < len(kept):
            raise Ring(ring_among(kept, lengths))
        if lengths[MAIN] > MOST_LENGTH:
            raise TooLong(lengths[MAIN])
        self.default = default
        self.chains = kept
        self.lengths = lengths

    def chain_names(self):
        """The names of the chains, in the book's order."""
        return list(self.chains)

    def chain(self, name):
        """The rules of a chain as objects; NoChain where none is called so."""
        if name not in self.chains:
            raise NoChain(name)
        return list(self.chains[name])

    def rule_at(self, name, index):
        """The rule at an index of a chain, or None where the chain has come to its end."""
        rules = self.chains[name]
        return rules[index] if index < len(rules) else None

    def length(self):
        """The length of main."""
        return self.lengths[MAIN]

    def length_of(self, name):
        """The length of the chain that is called so."""
        return self.lengths[name]

    def told(self):
        """The book as a tuple (default, list of chains), chains and rules as they are handed in."""
        chains = []
        for name in self.chains:
            chains.append((name, [rule.told() for rule in self.chains[name]]))
        return (self.default, chains)


def copy_of(book):
    """A book of its own with the same default and chains."""
    told = book.told()
    return Book(told[0], told[1])
