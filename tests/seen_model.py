"""The document's words on what is seen told a second time: rows, and the sets of the model's stands behind them."""

from functools import lru_cache

from anywait.faults import fault
from anywait.mending import mended
from tests.families import GATES, Picker, all_pairs, great_pairs, mixed_pair, ring
from tests.made import keeps_its_outs, made_samples, model_net
from tests.mend_model import put_on
from tests.model import begin, model_fault, model_steps, step_to, wires_of
from tests.samples import rows_of


def seen_wires(net, talk):
    return [name for name in wires_of(net) if name in net[0] or name in talk[0]]


def with_hidden(net, talk, group):
    """These stands and those that come of them unseen."""
    met = list(group)
    for stand in met:
        for wire in model_steps(net, talk, stand):
            behind = step_to(talk, stand, wire, net)
            if wire not in seen_wires(net, talk) and behind not in met:
                met.append(behind)
    return frozenset(met)


def first_group(net, talk):
    return with_hidden(net, talk, [begin(net)])


def next_groups(net, talk, group):
    """The wires that may be seen next, in order, each with the stands behind it."""
    found = {}
    for wire in seen_wires(net, talk):
        behind = {step_to(talk, stand, wire, net) for stand in group if wire in model_steps(net, talk, stand)}
        if behind - {None}:
            found[wire] = with_hidden(net, talk, behind - {None})
    return found


def is_seen(net, talk, row):
    group = first_group(net, talk)
    for wire in row:
        group = next_groups(net, talk, group).get(wire)
        if group is None:
            return False
    return True


class Groups:
    """The sets of stands of one net and talk, with what follows them looked for once."""

    def __init__(self, net, talk):
        self.pair = (net, talk)
        self.known = {}

    def behind(self, group):
        if group not in self.known:
            self.known[group] = next_groups(*self.pair, group)
        return self.known[group]

    def alike(self, one, other):
        """Whether just the same rows are seen behind both."""
        met = [(one, other)]
        for first, second in met:
            ways, others = self.behind(first), self.behind(second)
            if list(ways) != list(others):
                return False
            met += [pair for pair in ((ways[wire], others[wire]) for wire in ways) if pair not in met]
        return True

    def fewest(self):
        """Groups none of which are alike, in order of the first rows that lead to them."""
        found, ahead = [], [first_group(*self.pair)]
        for group in ahead:
            if not any(self.alike(group, other) for other in found):
                found.append(group)
                ahead += self.behind(group).values()
        return found


def model_seen(net, talk):
    """The seen talk, with however many states, or None."""
    if model_fault(net, talk) is not None:
        return None
    groups = Groups(net, talk)
    found = groups.fewest()
    states = []
    for group in found:
        moves = groups.behind(group).items()
        states.append(tuple(
            (wire, [groups.alike(behind, other) for other in found].index(True)) for wire, behind in moves
        ))
    return (talk[0], tuple(states))


def rows_of_talk(net, talk, most):
    """Every row of at most so many moves, shorter ones first, then by the wires' order, each with its state."""
    level = [((), 0)]
    for number in range(most + 1):
        yield from level
        level = [
            (row + (wire,), dict(talk[1][state])[wire])
            for row, state in level for wire in wires_of(net) if wire in dict(talk[1][state])
        ]


def are_alike(talk, one, other):
    """Whether two states of a talk have just the same rows."""
    met = [(one, other)]
    for first, second in met:
        moves, others = dict(talk[1][first]), dict(talk[1][second])
        if set(moves) != set(others):
            return False
        met += [pair for pair in ((moves[wire], others[wire]) for wire in moves) if pair not in met]
    return True


def model_undone(net, talk):
    """The first row that is not seen, or None: a row that comes to what has been come to is not gone on with."""
    groups = Groups(net, talk)
    met = set()
    level = [([], 0, first_group(net, talk))]
    while level:
        behind = []
        for row, state, group in level:
            if group is None:
                return row
            if (state, group) not in met:
                met.add((state, group))
                moves = dict(talk[1][state])
                for wire in [name for name in wires_of(net) if name in moves]:
                    behind.append((row + [wire], moves[wire], groups.behind(group).get(wire)))
        level = behind
    return None


def walk_of(number):
    """A net of five gates that goes through so many settings, one gate at a time, and then to and fro for ever."""
    codes = [place ^ (place >> 1) for place in range(number)]
    rows = [tuple(bool(code >> bit & 1) for bit in range(5)) for code in codes]
    then = rows[1:] + rows[-2:-1]
    gates = tuple(
        (name, ("table", GATES, tuple(sorted(row for row, behind in zip(rows, then) if behind[place]))))
        for place, name in enumerate(GATES)
    )
    return (((), gates, rows[0]), (GATES, (tuple((name, 0) for name in GATES),)))


def loosened(talk, pick):
    """The talk with states told twice, in another order, and with outs more than there were."""
    copies = [state for state in range(len(talk[1])) for again in range(1 + pick.below(2))]
    copies = [0] + sorted(copies, key=lambda state: pick.below(1000))[:11]
    copies += [state for state in range(len(talk[1])) if state not in copies]
    if len(copies) > 12:
        return talk
    states = []
    for state in copies:
        moves = dict(talk[1][state])
        told = [(wire, pick.one_of([place for place, other in enumerate(copies) if other == behind]))
                for wire, behind in moves.items()]
        told += [(name, pick.below(len(copies))) for name in talk[0] if name not in moves and pick.below(4) == 0]
        states.append(tuple(sorted(told, key=lambda move: pick.below(1000))))
    return (talk[0], tuple(states))


@lru_cache(maxsize=None)
def seen_pairs():
    """All pairs, and those of five gates, three inputs or many states, made and mended nets, and loosened talks."""
    pick = Picker(111)
    found = all_pairs() + [mixed_pair(inputs, gates, 12, pick) for inputs in range(3) for gates in range(1, 6)]
    found += [ring(start, outs) for start in rows_of(5)[::3] for outs in (GATES[:3], GATES, GATES[3:0:-1])]
    for inputs, talk, start in made_samples()[::3]:
        made = model_net(inputs, talk, start)
        if not isinstance(made, str) and keeps_its_outs(talk):
            found.append((made, talk))
    for net, talk in all_pairs()[::2]:
        points = mended(net, talk) if len(net[1]) <= 4 else None
        if points and len(talk[1]) > 1:
            found.append((put_on(net, points), talk))
    calm = [(net, talk) for net, talk in found if len(talk[1]) > 1 and fault(net, talk) is None]
    found += [(net, loosened(talk, pick)) for net, talk in calm for again in range(2)]
    return found + [walk_of(number) for number in range(2, 18)] + great_pairs()
