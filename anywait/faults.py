"""Faults: the first one of a net and a talk, and papers of safety where there is none."""

from anywait.nets import waiting_gates
from anywait.stands import first_stand, is_stand, is_unasked, led_to, newly_met, stands, steps_at
from anywait.talks import checked_talk


# Looked for while the stands are met, so that nothing behind the first fault is walked.
def fault(net, talk):
    checked_talk(net, talk)
    runs = {first_stand(net): []}
    ahead = list(runs)
    while ahead:
        found = fault_at(net, talk, ahead[0], runs[ahead[0]])
        if found is not None:
            return found
        ahead = ahead[1:] + newly_met(net, talk, ahead[0], runs)
    return None


def paper(net, talk):
    return stands(net, talk) if fault(net, talk) is None else None


def is_paper(net, talk, thing):
    checked_talk(net, talk)
    if not isinstance(thing, list) or not all([is_stand(net, talk, part) for part in thing]):
        return False
    listed = dict([(stand, True) for stand in thing])
    if len(listed) < len(thing) or first_stand(net) not in listed:
        return False
    return all([is_sound(net, talk, stand, listed) for stand in thing])


# A stand without a fault has no unasked step, so each of its steps leads to a stand.
def is_sound(net, talk, stand, listed):
    if fault_at(net, talk, stand, []) is not None:
        return False
    return all([led_to(net, talk, stand, wire) in listed for wire in steps_at(net, talk, stand)])


def fault_at(net, talk, stand, run):
    names = steps_at(net, talk, stand)
    if not names and has_out(talk, stand):
        return ("stuck", run)
    for wire in names:
        found = fault_of_step(net, talk, stand, wire, run + [wire])
        if found is not None:
            return found
    return None


def has_out(talk, stand):
    return any([move[0] in talk[0] for move in talk[1][stand[1]]])


def fault_of_step(net, talk, stand, wire, run):
    if is_unasked(talk, stand, wire):
        return ("unasked", run)
    still = waiting_gates(net, led_to(net, talk, stand, wire)[0])
    for gate in waiting_gates(net, stand[0]):
        if gate != wire and gate not in still:
            return ("taken", run, gate)
    return None
