"""The document's words on stands, runs, faults, papers and goings told a second time, slowly, over sets of wires.

Within the model a stand is a pair of the set of the wires that are on and a state.
"""

from functools import lru_cache


def wires_of(net):
    return [*net[0], *(name for name, kind in net[1])]


def tells(kind, own, on):
    """What the kind of the gate own tells, where these wires are on."""
    word = kind[0]
    if word == "held":
        inner = tells(kind[1], own, on)
        as_told = (kind[2] in on) is inner
        return inner if as_told is kind[3] else own in on
    if word == "table":
        return tuple(name in on for name in kind[1]) in set(kind[2])
    names = {kind[1]} if word in ("same", "not") else set(kind[1])
    number = len(names & on)
    if word == "both" and 0 < number < len(names):
        return own in on
    return {"same": number == 1, "not": number == 0, "or": number > 0}.get(word, number == len(names))


def waits(net, on):
    return [name for name, kind in net[1] if tells(kind, name, on) is not (name in on)]


def begin(net):
    return (frozenset(name for name, value in zip(wires_of(net), net[2]) if value), 0)


def shown(net, stand):
    """A stand of the model as the program tells it."""
    return (tuple(name in stand[0] for name in wires_of(net)), stand[1])


def model_steps(net, talk, stand):
    moves = dict(talk[1][stand[1]])
    free = {name for name in net[0] if name in moves} | set(waits(net, stand[0]))
    return sorted(free, key=wires_of(net).index)


def step_to(talk, stand, wire, net):
    """The stand that a step leads to, or None."""
    moves = dict(talk[1][stand[1]])
    on = stand[0] ^ {wire}
    if wire in moves:
        return (on, moves[wire])
    return None if wire in talk[0] or wire in net[0] else (on, stand[1])


def first_runs(net, talk):
    """Each stand that comes, with the first run there: shorter ones first, then by the wires' order."""
    places = wires_of(net).index
    found = {}
    level = [([], begin(net))]
    while level:
        behind = []
        for run, stand in sorted(level, key=lambda pair: [places(wire) for wire in pair[0]]):
            if stand not in found:
                found[stand] = run
                behind += [(run + [wire], step_to(talk, stand, wire, net)) for wire in model_steps(net, talk, stand)]
        level = [pair for pair in behind if pair[1] is not None]
    return found


def model_stands(net, talk):
    return [shown(net, stand) for stand in first_runs(net, talk)]


def faults_at(net, talk, stand, run):
    """Every fault of a stand, each with what it is put in order by."""
    free = model_steps(net, talk, stand)
    moves = dict(talk[1][stand[1]])
    found = []
    if not free and set(moves) & set(talk[0]):
        found.append(((0,), ("stuck", run)))
    for place, wire in enumerate(free, 1):
        if step_to(talk, stand, wire, net) is None:
            found.append(((place, 0), ("unasked", run + [wire])))
        still = waits(net, stand[0] ^ {wire})
        for gate_place, gate in enumerate(waits(net, stand[0]), 1):
            if gate != wire and gate not in still:
                found.append(((place, gate_place), ("taken", run + [wire], gate)))
    return found


def all_faults(net, talk):
    """Every fault of every stand that comes, in order."""
    found = []
    for number, (stand, run) in enumerate(first_runs(net, talk).items()):
        found += [((number,) + key, told) for key, told in faults_at(net, talk, stand, run)]
    return [told for key, told in sorted(found, key=lambda pair: pair[0])]


def model_fault(net, talk):
    return (all_faults(net, talk) + [None])[0]


@lru_cache(maxsize=None)
def sound_stands(net, talk):
    """The most stands that can stand in a paper: none with a fault, and for each of them all that it leads to."""
    subsets = [frozenset()]
    for name in wires_of(net):
        subsets += [on | {name} for on in subsets]
    kept = {(on, state) for on in subsets for state in range(len(talk[1]))}
    kept = {stand for stand in kept if not faults_at(net, talk, stand, [])}
    while True:
        left = {
            stand for stand in kept
            if all(step_to(talk, stand, wire, net) in kept for wire in model_steps(net, talk, stand))
        }
        if left == kept:
            return frozenset(kept)
        kept = left


def closure(net, talk, stand):
    """The stands that come from this one, itself among them."""
    found = [stand]
    for one in found:
        for wire in model_steps(net, talk, one):
            behind = step_to(talk, one, wire, net)
            if behind is not None and behind not in found:
                found.append(behind)
    return found


def model_behind(net, talk, run):
    """The stand behind a list of wires, or None, if it is no run."""
    stand = begin(net)
    for wire in run:
        if stand is None or wire not in model_steps(net, talk, stand):
            return None
        stand = step_to(talk, stand, wire, net)
    return stand


def numbered(run):
    """The changes of a run, each as a wire and how often it has changed then."""
    return [(wire, run[:place + 1].count(wire)) for place, wire in enumerate(run)]


def model_gone_on(net, talk, one, other):
    """The further wires, or None, if the one run can not be gone on with by them."""
    made = set(numbered(one))
    further = [change[0] for change in numbered(other) if change not in made]
    return None if model_behind(net, talk, one + further) is None else further
