"""Talks that nets are made of, and the document's words on these told a second time, over sets of wires."""

from functools import lru_cache

from anywait.faults import fault
from anywait.stands import stands, steps
from tests.families import GATES, Picker, all_pairs
from tests.model import wires_of


def ways_met(inputs, talk, start):
    """Every pair of a state and the wires that are on there, whatever way leads to it."""
    names = [*inputs, *talk[0]]
    met = [(0, frozenset(name for name, value in zip(names, start) if value))]
    for state, on in met:
        for wire, behind in talk[1][state]:
            pair = (behind, on ^ {wire})
            if pair not in met:
                met.append(pair)
    return met


def model_settings(inputs, talk, start):
    """For each state its setting or None; or the text Unlike."""
    met = ways_met(inputs, talk, start)
    if len({state for state, on in met}) < len(met):
        return "Unlike"
    found = dict(met)
    names = [*inputs, *talk[0]]
    return [
        tuple(name in found[state] for name in names) if state in found else None for state in range(len(talk[1]))
    ]


def model_clash(inputs, talk, start):
    """The first two states that clash or None; or the text Unlike."""
    found = model_settings(inputs, talk, start)
    if found == "Unlike":
        return found
    outs = [{wire for wire, behind in moves} & set(talk[0]) for moves in talk[1]]
    pairs = [
        (one, other) for one, setting in enumerate(found) for other, same in enumerate(found)
        if one < other and setting == same and setting is not None and outs[one] != outs[other]
    ]
    return min(pairs, default=None)


def model_net(inputs, talk, start):
    """The made net; or the text Unlike or Clash."""
    found = model_clash(inputs, talk, start)
    if found is not None:
        return found if found == "Unlike" else "Clash"
    met = ways_met(inputs, talk, start)
    names = (*inputs, *talk[0])
    gates = []
    for gate in talk[0]:
        rows = set()
        for state, on in met:
            changes = gate in dict(talk[1][state])
            if (gate in on and not changes) or (gate not in on and changes):
                rows.add(tuple(name in on for name in names))
        gates.append((gate, ("table", names, tuple(sorted(rows)))))
    return (inputs, tuple(gates), start)


def keeps_its_outs(talk):
    """Whether behind any move each other out that its state has is still there."""
    for moves in talk[1]:
        for wire, behind in moves:
            left = {name for name, state in moves if name in talk[0] and name != wire}
            if not left <= {name for name, state in talk[1][behind]}:
                return False
    return True


def rows_talk(outs, row):
    """States one behind the other, for the wires of a row, and round again."""
    return (tuple(outs), tuple(((wire, (place + 1) % len(row)),) for place, wire in enumerate(row)))


def open_talk(outs, row):
    """States one behind the other, for the wires of a row, and an end."""
    return (tuple(outs), tuple(((wire, place + 1),) for place, wire in enumerate(row)) + ((),))


def grown_talk(inputs, outs, states, pick):
    """States each of which has one setting: for some moves no state is there, and some states do not come."""
    names = [*inputs, *outs]
    on = [frozenset(name for name in names if pick.below(2))]
    while len(on) < states:
        on.append(pick.one_of(on) ^ {pick.one_of(names)} if pick.below(12) else frozenset())
    order = [0] + sorted(range(1, states), key=lambda place: pick.below(100))
    on = [on[place] for place in order]
    moves = []
    for here in on:
        found = []
        for wire in sorted(names, key=lambda name: pick.below(100)):
            behind = [state for state, there in enumerate(on) if there == here ^ {wire}]
            if behind and pick.below(4):
                found.append((wire, pick.one_of(behind)))
        moves.append(tuple(found))
    return (tuple(inputs), (tuple(outs), tuple(moves)), tuple(name in on[0] for name in names))


def any_talk(inputs, outs, states, pick):
    names = [*inputs, *outs]
    moves = tuple(
        tuple((wire, pick.below(states)) for wire in names if pick.below(3) == 0) for state in range(states)
    )
    return (tuple(inputs), (tuple(outs), moves), tuple(pick.below(2) == 1 for name in names))


@lru_cache(maxsize=None)
def made_samples():
    """Tuples of inputs, a talk and a start: those with one setting for each state, those with clashes, any."""
    pick = Picker(51)
    found = []
    for inputs in ((), ("b",), ("b", "a"), ("c", "a", "b")):
        for number in range(1, 6):
            outs = tuple(reversed(GATES[:number]))
            for states in range(1, 13):
                found += [grown_talk(inputs, outs, states, pick) for again in range(4)]
                found += [any_talk(inputs, outs, min(states, 6), pick)]
    return found


@lru_cache(maxsize=None)
def stands_as_talks():
    """The stands of safe nets, where there are at most 12, as talks of all their gates."""
    found = []
    for net, talk in all_pairs():
        known = stands(net, talk) if fault(net, talk) is None else []
        if 0 < len(known) <= 12:
            outs = tuple(name for name, kind in net[1])
            found.append((net[0], (outs, tuple(moves_of(net, talk, known, one) for one in known)), net[2]))
    return found


def moves_of(net, talk, known, stand):
    moves = dict(talk[1][stand[1]])
    found = []
    for wire in steps(net, talk, stand):
        setting = tuple(value != (name == wire) for name, value in zip(wires_of(net), stand[0]))
        found.append((wire, known.index((setting, moves.get(wire, stand[1])))))
    return tuple(found)
