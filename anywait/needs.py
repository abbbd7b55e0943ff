"""Needs: how often each wire has changed at the least ahead of a wire's so-manieth change."""

from anywait.errors import NoNumber, NoRun
from anywait.nets import is_number, is_wire, wire_names
from anywait.stands import led_to, stands, steps_at
from anywait.talks import checked_talk

MOST_NEEDED = 20


def needed(net, talk, wire, number):
    checked_talk(net, talk)
    names = wire_names(net)
    if not is_wire(wire, names):
        raise NoRun("this is no wire of the net")
    if not is_number(number, 1, MOST_NEEDED):
        raise NoNumber("this is no number of a change")
    ways = ways_of(net, talk)
    counts = [least_ahead(ways, wire, number, name) for name in names]
    return None if None in counts else counts


# For each stand by its number: the wires of its steps, each with the number of the stand that it leads to.
def ways_of(net, talk):
    found = stands(net, talk)
    numbers = dict([(stand, number) for number, stand in enumerate(found)])
    return [ways_at(net, talk, stand, numbers) for stand in found]


def ways_at(net, talk, stand, numbers):
    behind = [(wire, led_to(net, talk, stand, wire)) for wire in steps_at(net, talk, stand)]
    return dict([(wire, numbers[other]) for wire, other in behind if other is not None])


# Goes through pairs of a stand and how often the wire has changed there, by fewer changes of the other one first:
# what can be come to without one more of them is met ahead of what can not.
def least_ahead(ways, wire, number, other):
    met = {}
    ahead = [(0, 0)]
    later = []
    least = 0
    while ahead:
        place = ahead.pop()
        if place not in met:
            met[place] = True
            if place[1] == number - 1 and wire in ways[place[0]]:
                return least
            behind = places_behind(ways, wire, place)
            ahead.extend([behind[name] for name in behind if name != other])
            later.extend([behind[name] for name in behind if name == other])
        if not ahead:
            ahead = later
            later = []
            least += 1
    return None


def places_behind(ways, wire, place):
    moves = ways[place[0]]
    return dict([(name, (moves[name], place[1] + 1 if name == wire else place[1])) for name in moves])
