"""The document's words on meeting points told a second time: all are tried, one behind the other."""

from functools import lru_cache

from anywait.faults import fault
from tests.model import wires_of


def depth_of(kind):
    return 1 + depth_of(kind[1]) if kind[0] == "held" else 0


def put_on(net, points):
    """The net with meeting points, or None, if there is no place for them."""
    inputs, gates, start = net
    kinds = dict(gates)
    for gate, wire, way in points:
        kinds[gate] = ("held", kinds[gate], wire, way)
    if max(depth_of(kind) for kind in kinds.values()) > 3:
        return None
    return (inputs, tuple((name, kinds[name]) for name, kind in gates), start)


def in_order(net, point):
    """What a meeting point is put in order by."""
    places = wires_of(net).index
    return (places(point[0]), places(point[1]), point[2])


def model_points(net):
    points = [(gate, wire, way) for way in (True, False) for wire in wires_of(net) for gate, kind in net[1]]
    return sorted(points, key=lambda point: in_order(net, point))


def tuples_of(net, number):
    """Every tuple of so many meeting points, none the same gate twice, in order, the greater ahead too."""
    found = [()]
    for again in range(number):
        found = [
            points + (point,) for points in found for point in model_points(net)
            if point[0] not in [other[0] for other in points]
        ]
    return found


@lru_cache(maxsize=None)
def does(net, talk, points):
    """Whether these meeting points make the net safe."""
    made = put_on(net, points)
    return made is not None and fault(made, talk) is None


def model_mended(net, talk):
    for number in range(3):
        for points in tuples_of(net, number):
            if does(net, talk, points):
                return points
    return None
