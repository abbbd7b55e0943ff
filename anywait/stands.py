"""Stands: their steps, which of them come, and where runs lead."""

from anywait.errors import NoRun
from anywait.nets import is_number, is_row, is_tuple, is_wire, waiting_gates, wire_names
from anywait.talks import checked_talk


def steps(net, talk, stand):
    return steps_at(net, checked_talk(net, talk), stand)


def stands(net, talk):
    checked_talk(net, talk)
    runs = {first_stand(net): []}
    ahead = list(runs)
    while ahead:
        ahead = ahead[1:] + newly_met(net, talk, ahead[0], runs)
    return list(runs)


def stand_behind(net, talk, run):
    checked_talk(net, talk)
    if not isinstance(run, list):
        raise NoRun("a run is a list of wires")
    stand = first_stand(net)
    for wire in run:
        if not is_wire(wire, steps_at(net, talk, stand)):
            raise NoRun("this is no step there")
        stand = led_to(net, talk, stand, wire)
        if stand is None:
            raise NoRun("an unasked step leads to no stand")
    return stand


def is_stand(net, talk, thing):
    if not is_tuple(thing, 2, 2):
        return False
    return is_row(thing[0], len(net[2])) and is_number(thing[1], 0, len(talk[1]) - 1)


def first_stand(net):
    return (net[2], 0)


# From here on without a look at the forms: for callers that have checked net and talk.
def steps_at(net, talk, stand):
    moves = dict(talk[1][stand[1]])
    return [name for name in net[0] if name in moves] + waiting_gates(net, stand[0])


def is_unasked(talk, stand, wire):
    return wire in talk[0] and wire not in dict(talk[1][stand[1]])


# The stand that a step leads to, None for an unasked one; a gate that is no out leaves the state as it is.
def led_to(net, talk, stand, wire):
    if is_unasked(talk, stand, wire):
        return None
    moves = dict(talk[1][stand[1]])
    return (changed(net, stand[0], wire), moves.get(wire, stand[1]))


def changed(net, setting, wire):
    return tuple([not value if name == wire else value for name, value in zip(wire_names(net), setting)])


# Puts each stand that is first met behind this one into runs, with the run that came there, and tells them in order.
def newly_met(net, talk, stand, runs):
    met = []
    for wire in steps_at(net, talk, stand):
        behind = led_to(net, talk, stand, wire)
        if behind is not None and behind not in runs:
            runs[behind] = runs[stand] + [wire]
            met.append(behind)
    return met
