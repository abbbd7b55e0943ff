"""Waits: how a net and a talk go by given waits, which waits spoil them, and the pace that they come to."""

from anywait.errors import NoNumber, NoWaits
from anywait.faults import fault
from anywait.nets import is_number, is_tuple, wire_names
from anywait.stands import first_stand, led_to, steps_at
from anywait.talks import checked_talk

LONGEST_WAIT = 99
MOST_CHANGES = 200


def timed(net, talk, waits, number):
    check_waits(net, talk, waits)
    if not is_number(number, 0, MOST_CHANGES):
        raise NoNumber("this is no number of changes")
    going = Going(net, talk, waits)
    while going.since and len(going.changes) < number:
        going.change()
    return (going.changes, going.ending())


def spoiling(net, talk):
    found = fault(net, talk)
    if found is None:
        return None
    row = []
    stand = first_stand(net)
    since = {}
    for time, wire in enumerate(found[1]):
        since = since_when(steps_at(net, talk, stand), since, time)
        row.append((wire, time + 1 - since.pop(wire)))
        stand = led_to(net, talk, stand, wire)
    return row


def pace(net, talk, waits):
    check_waits(net, talk, waits)
    going = Going(net, talk, waits)
    heads = {}
    while going.since:
        rest = (going.stand, going.still())
        if rest in heads:
            return round_from(net, going.changes, heads[rest])
        heads[rest] = len(going.changes)
        going.change()
    return None


def check_waits(net, talk, waits):
    checked_talk(net, talk)
    number = len(net[2])
    if not is_tuple(waits, number, number) or not all([is_number(wait, 1, LONGEST_WAIT) for wait in waits]):
        raise NoWaits("these are no waits for the net")


# When each of these steps last came to be one; the wire that changed must not stand in before, so that it comes anew.
def since_when(names, before, time):
    return dict([(name, before.get(name, time)) for name in names])


# From one change on until all has come again, which it has behind the last one.
def round_from(net, changes, head):
    within = [wire for time, wire in changes[head:]]
    time = time_behind(changes, len(changes)) - time_behind(changes, head)
    return (head, time, [within.count(name) for name in wire_names(net)])


def time_behind(changes, number):
    return changes[number - 1][0] if number > 0 else 0


class Going:
    def __init__(self, net, talk, waits):
        self.net = net
        self.talk = talk
        self.lengths = dict(zip(wire_names(net), waits))
        self.changes = []
        self.stand = first_stand(net)
        self.since = since_when(steps_at(net, talk, self.stand), {}, 0)

    def due(self, wire):
        return self.since[wire] + self.lengths[wire]

    # The steps stand in the order of the wires, and of several that are least min tells the first.
    def change(self):
        wire = min(list(self.since), key=self.due)
        time = self.due(wire)
        self.changes.append((time, wire))
        self.stand = led_to(self.net, self.talk, self.stand, wire)
        self.since.pop(wire)
        names = [] if self.stand is None else steps_at(self.net, self.talk, self.stand)
        self.since = since_when(names, self.since, time)

    def still(self):
        time = time_behind(self.changes, len(self.changes))
        return tuple([self.due(wire) - time for wire in self.since])

    def ending(self):
        if self.stand is None:
            return "unasked"
        return "on" if self.since else "end"
