"""Changes: what stands on a label put in another's place, so that answers find their way back."""

from sieve.boxes import has


def changed(label, side, address, door):
    """The label with the address and the door on its side, "from" or "to"."""
    if side == "from":
        return (label[0], address, door, label[3], label[4])
    return (label[0], label[1], label[2], address, door)


def free_or_none(label, sent, table):
    """The sent label where a talk of the two would be free, else None."""
    return sent if table.free(label, sent) else None


def choice_by(change, label, table):
    """The label changed with the least door that is free, or None."""
    for door in range(change[3][0], change[3][1] + 1):
        sent = free_or_none(label, changed(label, change[0], change[2], door), table)
        if sent is not None:
            return sent
    return None


def choice(changes, label, table):
    """The label as it is to be sent for a new talk, or None where nothing is free."""
    # A label by which a talk goes is free with no other, so no door need be tried.
    if table.turn(label) != 0:
        return None
    for change in changes:
        if has(change[1], label):
            return choice_by(change, label, table)
    return free_or_none(label, label, table)
