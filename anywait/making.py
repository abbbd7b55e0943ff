"""Making: the settings of a talk's states, states that clash, and the net that is made of a talk."""

from anywait.errors import Clash, NoTalk, Unlike
from anywait.nets import is_net, is_tuple
from anywait.stands import changed
from anywait.talks import is_talk


def settings(inputs, talk, start):
    frame = checked_frame(inputs, talk, start)
    found = {0: start}
    ahead = [0]
    while ahead:
        state = ahead.pop()
        for wire, behind in talk[1][state]:
            setting = changed(frame, found[state], wire)
            if behind not in found:
                found[behind] = setting
                ahead.append(behind)
            elif found[behind] != setting:
                raise Unlike("two ways to one state make unlike settings")
    return [found.get(state) for state in range(len(talk[1]))]


def clash(inputs, talk, start):
    found = settings(inputs, talk, start)
    for one in range(len(found)):
        for other in range(one + 1, len(found)):
            if found[one] is not None and found[one] == found[other] and outs_at(talk, one) != outs_at(talk, other):
                return (one, other)
    return None


def net_of(inputs, talk, start):
    if clash(inputs, talk, start) is not None:
        raise Clash("two states have one setting and not the same outs")
    found = settings(inputs, talk, start)
    names = inputs + talk[0]
    gates = [(name, ("table", names, on_rows(talk, found, names.index(name), name))) for name in talk[0]]
    return (inputs, tuple(gates), start)


# A net with the wires that the made one shall have: so the forms of a net and a talk are asked for in one place only.
def checked_frame(inputs, talk, start):
    if not is_tuple(talk, 2, 2) or not isinstance(talk[0], tuple):
        raise NoTalk("a talk is a tuple of outs and states")
    frame = (inputs, tuple([(name, ("same", name)) for name in talk[0]]), start)
    if not is_net(frame) or not is_talk(frame, talk):
        raise NoTalk("this is no talk for a net with these inputs, its outs as gates and this start")
    return frame


def outs_at(talk, state):
    moves = dict(talk[1][state])
    return [name for name in talk[0] if name in moves]


# The settings in which the gate is to be on next: it is on and stays so, or it is off and to be changed.
def on_rows(talk, found, place, name):
    rows = []
    for state, setting in enumerate(found):
        if setting is not None and setting[place] != (name in outs_at(talk, state)):
            rows.append(setting)
    return tuple(sorted(set(rows)))
