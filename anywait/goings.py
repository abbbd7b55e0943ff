"""Goings: a run gone on with by another one's further changes."""

from anywait.stands import stand_behind


def gone_on(net, talk, one, other):
    stand_behind(net, talk, one)
    stand_behind(net, talk, other)
    further = further_changes(one, other)
    stand_behind(net, talk, one + further)
    return further


def further_changes(one, other):
    counts = {}
    for wire in one:
        counts[wire] = counts.get(wire, 0) + 1
    further = []
    for wire in other:
        left = counts.get(wire, 0)
        if left == 0:
            further.append(wire)
        else:
            counts[wire] = left - 1
    return further
