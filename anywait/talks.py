"""Talks: their form, and whether they are steady."""

from anywait.errors import NoTalk
from anywait.nets import are_wires, checked, is_number, is_tuple

MOST_STATES = 12


def checked_talk(net, talk):
    if not is_talk(checked(net), talk):
        raise NoTalk("this is no talk for the net")
    return talk


def is_steady(net, talk):
    states = [dict(state) for state in checked_talk(net, talk)[1]]
    return all([is_steady_at(states, moves) for moves in states])


def is_steady_at(states, moves):
    for one in moves:
        for other in moves:
            if one != other and not meet(states, moves[one], moves[other], one, other):
                return False
    return True


# Whether the other wire behind the one leads where the one behind the other does.
def meet(states, behind_one, behind_other, one, other):
    if other not in states[behind_one] or one not in states[behind_other]:
        return False
    return states[behind_one][other] == states[behind_other][one]


def is_talk(net, talk):
    if not is_tuple(talk, 2, 2):
        return False
    gates = [gate[0] for gate in net[1]]
    if not are_wires(talk[0], gates, 0, len(gates)) or not is_tuple(talk[1], 1, MOST_STATES):
        return False
    names = net[0] + talk[0]
    return all([is_state(state, names, len(talk[1])) for state in talk[1]])


def is_state(state, names, number):
    if not is_tuple(state, 0, len(names)) or not all([is_tuple(move, 2, 2) for move in state]):
        return False
    if not are_wires(tuple([move[0] for move in state]), names, 0, len(names)):
        return False
    return all([is_number(move[1], 0, number - 1) for move in state])
