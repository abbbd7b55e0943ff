"""Nets with their talks, for the tests of all that goes on with both."""

from functools import lru_cache
from itertools import product

from anywait.faults import fault
from anywait.talks import is_steady
from tests.model import begin, model_steps, step_to
from tests.samples import kinds_of, rows_of

GATES = ("g", "h", "m", "n", "p")


class Picker:
    """Picks that look mixed and are the same each time."""

    def __init__(self, seed):
        self.value = seed * 2 + 1

    def below(self, number):
        self.value = (self.value * 6364136223846793005 + 1442695040888963407) % (1 << 64)
        return (self.value >> 33) % number

    def one_of(self, things):
        return things[self.below(len(things))]


def with_gate(net, place, kind):
    """The net with another kind for one gate."""
    inputs, gates, start = net
    return (inputs, gates[:place] + ((gates[place][0], kind),) + gates[place + 1:], start)


def other_kinds(names):
    """Some kinds of each word."""
    first, last = names[0], names[-1]
    kinds = [
        ("same", first), ("not", first), ("same", last), ("not", last), ("and", (first, last)), ("or", (first, last)),
        ("both", (first, last)), ("table", (first, last), rows_of(2)[1:3]), ("table", names, ()),
        ("held", ("same", first), last, True), ("held", ("not", last), first, False),
    ]
    return kinds


def meeting(kind=("both", ("a", "b")), value=False):
    """Two inputs that meet in a gate, which shall change when both have changed."""
    net = (("a", "b"), (("c", kind),), (value,) * 3)
    return (net, (("c",), ((("a", 1), ("b", 2)), (("b", 3),), (("a", 3),), (("c", 0),))))


def meetings_with_more():
    """The same with a gate behind, or with gates at the inputs, unseen."""
    talk = meeting()[1]
    behind = (("a", "b"), (("c", ("both", ("a", "b"))), ("d", ("not", "c"))), (False, False, False, True))
    ahead = (
        ("a", "b"),
        (("x", ("not", "a")), ("y", ("same", "b")), ("z", ("not", "x")), ("c", ("both", ("z", "y")))),
        (False, False, True, False, False, False),
    )
    return [(behind, talk), (ahead, talk), (behind, (("d",), tuple(
        tuple(("d" if wire == "c" else wire, state) for wire, state in moves) for moves in talk[1]
    )))]


def chain(number, value=False):
    """Gates in a row, each of which follows the one ahead when the one behind has followed itself."""
    names = ("r",) + GATES[:number] + ("k",)
    gates = tuple(
        (names[place], ("held", ("same", names[place - 1]), names[place + 1], False)) for place in range(1, number + 1)
    )
    net = (("r", "k"), gates, (value,) * (number + 2))
    first, last = GATES[0], GATES[number - 1]
    if number == 1:
        return (net, ((first,), ((("r", 1),), ((first, 2),), (("r", 3), ("k", 0)), (("k", 1),))))
    return (net, ((first, last), (
        (("r", 1), (last, 2)), ((first, 0), (last, 3)), (("r", 3), ("k", 0)), ((first, 2), ("k", 1)),
    )))


def ring(start, outs=()):
    """Gates in a ring, each of which follows the one ahead when the one behind has followed itself."""
    number = len(start)
    names = GATES[:number]
    gates = tuple(
        (names[place], ("held", ("same", names[place - 1]), names[(place + 1) % number], False))
        for place in range(number)
    )
    return (((), gates, tuple(start)), (outs, (tuple((name, 0) for name in outs),)))


def rings():
    found = []
    for number in (2, 3, 4):
        for start in rows_of(number):
            found += [ring(start), ring(start, GATES[:1]), ring(start, GATES[1:number])]
    return found + [ring(start, GATES[2:4]) for start in rows_of(5)[::5]]


def bare_pairs():
    """Talks without outs, of one state and of more."""
    found = []
    for kind in other_kinds(("a", "b", "g")):
        net = (("a", "b"), (("g", kind), ("h", ("not", "g"))), (False, True, False, True))
        found += [(net, ((), ((),))), (net, ((), ((("b", 1),), (("a", 0),)))), (net, ((), ((("a", 0), ("b", 0)),)))]
    return found


def exchanged(pairs):
    """These pairs with another kind for one gate each."""
    found = []
    for net, talk in pairs:
        names = net[0] + tuple(name for name, kind in net[1])
        for place, kind in product(range(len(net[1])), other_kinds(names)):
            found.append((with_gate(net, place, kind), talk))
    return found


def mixed_pair(inputs, gates, states, pick):
    names = ("i", "j")[:inputs] + GATES[:gates]
    kinds = kinds_of(names)
    plain = [kind for kind in kinds if kind[0] not in ("table", "held")]
    chosen = [pick.one_of(pick.one_of((kinds, plain, plain))) for name in names[inputs:]]
    net = (names[:inputs], tuple(zip(names[inputs:], chosen)), tuple(pick.below(2) == 1 for name in names))
    outs = tuple(name for name in reversed(names[inputs:]) if pick.below(2) == 0)
    moves = []
    for state in range(states):
        free = [name for name in reversed(names[:inputs]) if pick.below(3) > 0]
        free += [name for name in outs if pick.below(2) == 0]
        moves.append(tuple((name, pick.below(states)) for name in free))
    return (net, (outs, tuple(moves)))


def mixed_pairs():
    """Nets and talks of 0 to 2 inputs, 1 to 4 gates and 1 to 4 states, of all kinds, twenty of each size."""
    pick = Picker(7)
    sizes = list(product(range(3), range(1, 5), range(1, 5)))
    return [mixed_pair(*size, pick) for size in sizes for again in range(20)]


def great_pairs():
    """As many inputs, gates and states as there may be, with close to a thousand stands and with fewer."""
    names = ("a", "b", "c") + GATES
    gates = tuple((name, ("held", ("same", names[place + 2]), "a", place % 2 == 0)) for place, name in enumerate(GATES))
    net = (names[:3], gates, (False, True) * 4)
    wide = tuple((("c", 2 - place), ("b", place), ("a", (place + 1) % 3)) for place in range(3))
    long = tuple((("a" if place % 2 else "b", (place + 1) % 12),) for place in range(12))
    return [(net, ((), wide)), (net, ((), long))]


@lru_cache(maxsize=None)
def chains():
    return [chain(number, value) for number in (1, 2, 3, 4) for value in (False, True)]


@lru_cache(maxsize=None)
def all_pairs():
    found = [meeting(), meeting(value=True), *meetings_with_more(), *chains(), *rings(), *bare_pairs()]
    found += exchanged([meeting(), *meetings_with_more()[:2], chain(1), chain(2), chain(3), chain(4)])
    return found + mixed_pairs()


def some_run(net, talk, pick, most=12):
    """A run of at most so many steps."""
    run, stand = [], begin(net)
    for place in range(pick.below(most + 1)):
        ways = [wire for wire in model_steps(net, talk, stand) if step_to(talk, stand, wire, net) is not None]
        if not ways:
            break
        run.append(pick.one_of(ways))
        stand = step_to(talk, stand, run[-1], net)
    return run


def some_waits(net, pick, most):
    """Waits of one to so many."""
    return tuple(1 + pick.below(most) for value in net[2])


@lru_cache(maxsize=None)
def pairs_with_runs():
    """Each pair with some of its runs, as tuples."""
    pick = Picker(11)
    return [
        (net, talk, tuple(tuple(some_run(net, talk, pick)) for again in range(5))) for net, talk in all_pairs()
    ]


@lru_cache(maxsize=None)
def calm_pairs():
    """Those where net and talk are safe and the talk is steady."""
    return [(net, talk) for net, talk in all_pairs() if is_steady(net, talk) and fault(net, talk) is None]
