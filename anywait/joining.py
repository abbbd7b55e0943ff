"""Joining: two nets made one, wires of one name being one wire."""

from anywait.errors import TooBig, Unlike
from anywait.nets import are_unlike, checked, is_net, wire_names


def joined(one, other):
    firsts = start_values(checked(one))
    seconds = start_values(checked(other))
    gates = one[1] + other[1]
    if not are_unlike([gate[0] for gate in gates]):
        raise Unlike("a name is a gate in both nets")
    if any([firsts[name] != seconds[name] for name in firsts if name in seconds]):
        raise Unlike("a wire starts unlike in the two nets")
    inputs = joined_inputs(one, other)
    values = firsts.copy()
    values.update(seconds)
    net = (inputs, gates, tuple([values[name] for name in wire_names((inputs, gates))]))
    if not is_net(net):
        raise TooBig("the joined net has too many inputs or gates")
    return net


def start_values(net):
    return dict(zip(wire_names(net), net[2]))


def joined_inputs(one, other):
    driven = [gate[0] for gate in one[1] + other[1]]
    names = one[0] + tuple([name for name in other[0] if name not in one[0]])
    return tuple([name for name in names if name not in driven])
