"""Mending: meeting points put on a net, and the fewest that make it safe for a talk."""

from anywait.errors import NoTalk, TooBig
from anywait.faults import fault
from anywait.nets import checked, is_kind, is_tuple, is_wire, wire_names
from anywait.talks import checked_talk

MOST_MENDED_GATES = 4


def held(net, points):
    made = checked(net)
    if not isinstance(points, tuple):
        raise NoTalk("meeting points stand in a tuple")
    for point in points:
        if not is_point(made, point):
            raise NoTalk("this is no meeting point of the net")
        made = with_point(made, point)
    return made


def mended(net, talk):
    checked_talk(net, talk)
    if len(net[1]) > MOST_MENDED_GATES:
        raise TooBig("the net has too many gates to be mended")
    if fault(net, talk) is None:
        return ()
    left = {}
    for point in points_of(net):
        left[point] = fault(held(net, (point,)), talk)
        if left[point] is None:
            return (point,)
    return mended_by_two(net, talk, left)


# The points are those of the net in order, each with the fault that is left behind it alone. Two are the same either
# way round, so it is enough to look for the second one behind the first.
def mended_by_two(net, talk, left):
    points = list(left)
    for place, one in enumerate(points):
        for other in points[place + 1:]:
            if other[0] != one[0] and has_part(other[0], left[one]) and has_part(one[0], left[other]):
                if fault(held(net, (one, other)), talk) is None:
                    return (one, other)
    return None


# Held, a gate waits in no more settings than before: a fault in which it has no part is still there.
def has_part(gate, found):
    return gate in found[1] or gate in found[2:]


# A gate that is held as deep as may be has none.
def points_of(net):
    names = wire_names(net)
    gates = [gate[0] for gate in net[1]]
    points = []
    for gate in gates:
        for wire in names:
            points.extend([(gate, wire, way) for way in (False, True) if is_point(net, (gate, wire, way))])
    return points


def is_point(net, thing):
    kinds = dict(net[1])
    if not is_tuple(thing, 3, 3) or not is_wire(thing[0], kinds):
        return False
    return is_kind(held_kind(kinds[thing[0]], thing), wire_names(net), 0)


def with_point(net, point):
    gates = [(name, held_kind(kind, point) if name == point[0] else kind) for name, kind in net[1]]
    return (net[0], tuple(gates), net[2])


def held_kind(kind, point):
    return ("held", kind, point[1], point[2])
