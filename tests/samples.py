"""Nets and talks that the tests share, and things that are none."""

from itertools import product

from anywait.errors import WaitError

NAMES = ("a", "bc", "def", "ghij", "klmno", "pqrstu", "z", "inputs")
WORDS = (
    "input", "gate", "start", "out", "state", "same", "not", "and", "or", "both", "held", "table", "on", "off",
)
STARTS = (True, False, False, True, True, True, False, True)


def refusal(call, *things):
    """The error that a call is refused with, or None."""
    try:
        call(*things)
    except WaitError as error:
        return error
    return None


def rows_of(number):
    return tuple(product((False, True), repeat=number))


def kinds_of(names):
    """Kinds of every word over these wires, the edges of their bounds among them."""
    kinds = [("same", names[0]), ("not", names[-1])]
    for number in range(1, min(len(names), 4) + 1):
        kinds += [("and", names[:number]), ("or", names[-number:])]
        if number > 1:
            kinds += [("both", names[:number]), ("both", names[-number:])]
    for number in range(1, len(names) + 1):
        rows = rows_of(number)
        kinds += [("table", names[:number], chosen) for chosen in ((), rows, rows[::2], rows[-1:])]
    for kind in list(kinds):
        for way in (True, False):
            once = ("held", kind, names[-1], way)
            twice = ("held", once, names[0], not way)
            kinds += [once, twice, ("held", twice, names[-1], True)]
    return kinds


def nets():
    """Nets of each number of inputs and gates, with every kind in some place of each."""
    found = []
    for inputs in range(4):
        for gates in range(1, 6):
            names = NAMES[:inputs + gates]
            kinds = kinds_of(names)
            for first in range(0, len(kinds), gates):
                chosen = [kinds[(first + place) % len(kinds)] for place in range(gates)]
                found.append((names[:inputs], tuple(zip(names[inputs:], chosen)), STARTS[:len(names)]))
    return found


class Odd:
    """A thing that answers no question that it is asked."""

    __hash__ = None

    def refuse(self, *args):
        raise RuntimeError("it was asked")

    __eq__ = __ne__ = __lt__ = __le__ = __gt__ = __ge__ = refuse
    __bool__ = __len__ = __iter__ = __getitem__ = __contains__ = __repr__ = __str__ = refuse


def odd_things():
    """Things that are no names, tuples, texts, numbers, True or False that anything here asks for."""
    around = []
    around.append((around, around))
    return [
        None, 1.0, float("nan"), 2j, b"a", bytearray(b"a"), {}, {"a": 1}, set(), frozenset(("a",)), [], ["a"],
        object(), object, len, range(2), iter(()), around, Odd(), ((((),),),), 10 ** 400, "", "A", " a",
    ]


def deep_kind(depth):
    kind = ("same", "a")
    for place in range(depth):
        kind = ("held", kind, "b", place % 2 == 0)
    return kind


def with_kind(kind):
    """A net of the wires a to f whose second gate is of this kind."""
    gates = (("c", ("not", "a")), ("d", kind), ("e", ("both", ("a", "b"))), ("f", ("or", ("c",))))
    return (("a", "b"), gates, (False, True, True, False, True, False))


GOOD_KIND = ("and", ("a", "c"))
GOOD_NET = with_kind(GOOD_KIND)


def wrong_wire_kinds():
    five = ("a", "b", "c", "d", "e")
    found = [
        (), ("same",), ("and",), ("table",), ("held",), "same", "no", ["same", "a"], ["and", ("a", "b")],
        ("other", "a"), ("nor", ("a",)), ("And", ("a",)), ("", "a"), ("input", "a"), (1, "a"), ("a", "same"),
        ("same", "a", "b"), ("same", ("a",)), ("same", "x"), ("same", 0), ("same", True), ("same", "a", "a", "a"),
        ("not", "a", "b"), ("not", ("a",)), ("not", "x"), ("not", ""),
    ]
    for word in ("and", "or", "both"):
        found += [
            (word, ()), (word, "ab"), (word, "a"), (word, ["a", "b"]), (word, {"a": 1, "b": 2}), (word, ("a", "a")),
            (word, ("a", "b", "a")), (word, ("a", "x")), (word, ("a", 1)), (word, ("a", ("b",))), (word, five),
            (word, five + ("f",)), (word, ("a", "b"), ()), (word, ("a", "b"), "c"), (word, ("a", "b"), "c", True),
            (word, "a", "b"), (word, ("a", "b", "c", "d", "d")), [word, ("a", "b")],
        ]
    return found + [("both", ("a",))]


def wrong_table_kinds():
    pair = ("a", "b")
    row = (False, True)
    wrong_rows = [
        None, [row], row, "01", {row: True}, (row, row), ((True, False), row), (row, (True, False), row),
        ((False, False), (True, True), (True, False)), ((False, False), (True, False), (False, True), (True, True)),
        ([False, True],), ("01",), ((False,),), ((False, True, True),), ((),), (row, (True,)), (row, ()),
        ((False, 1),), ((0, 1),), (row, (True, 0)), ((0, True),), ((None, True),), (("a", "b"),), (False,),
    ]
    found = [("table", pair, rows) for rows in wrong_rows]
    return found + [
        ("table", pair), ("table", pair, (row,), ()), ("table", (), ()), ("table", (), ((),)), ["table", pair, (row,)],
        ("table", ("a", "a"), (row,)), ("table", ("a", "x"), (row,)), ("table", ["a", "b"], (row,)),
        ("table", "ab", (row,)), ("table", "a", ((True,),)), ("table", ("a", 1), (row,)), ("table", (row,), pair),
        ("table", ("a", "b", "c", "d", "e", "f", "a", "b", "c"), ()),
    ]


def wrong_held_kinds():
    return [
        ("held", GOOD_KIND, "b"), ("held", GOOD_KIND, "b", True, True), ("held", GOOD_KIND, "x", True),
        ("held", GOOD_KIND, ("b",), True), ("held", GOOD_KIND, "b", 1), ("held", GOOD_KIND, "b", 0),
        ("held", GOOD_KIND, "b", "on"), ("held", GOOD_KIND, "b", None), ("held", "same", "b", True),
        ("held", ("same", "x"), "b", True), ("held", ("both", ("a",)), "b", True), ("held", "b", GOOD_KIND, True),
        ("held", ["same", "a"], "b", True), ("held", (), "b", True), ("held", "b", True, GOOD_KIND),
        ("held", ("held", ("same", "x"), "a", True), "b", True), ("held", ("held", ("same", "a"), "b", 1), "b", True),
        ("held", ("held", ("same", "a"), "x", True), "b", True), ["held", GOOD_KIND, "b", True],
        deep_kind(4), deep_kind(5), deep_kind(20000),
    ]


def wrong_kinds():
    found = wrong_wire_kinds() + wrong_table_kinds() + wrong_held_kinds()
    for odd in odd_things():
        found += [
            odd, (odd,), (odd, "a"), (odd, ("a", "b")), ("same", odd), ("not", odd), ("and", odd), ("or", (odd,)),
            ("both", odd), ("both", ("a", odd)), ("table", odd, ()), ("table", (odd,), ()), ("table", ("a",), odd),
            ("table", ("a",), (odd,)), ("table", ("a",), ((odd,),)), ("held", odd, "b", True),
            ("held", GOOD_KIND, odd, True), ("held", GOOD_KIND, "b", odd),
        ]
    return found


def wrong_names():
    return list(WORDS) + [
        "", "A", "aB", "Abc", "abcdefg", "inputss", "a1", "1", "a_b", "_", "a b", " ", "a ", "a\n", "\n", "a-b",
        "`", "{", "\u00e4", "\u00df", "\u0430", "\u017f", "\u2160", "a\u0301", "\ud800", b"a", 1, 0, True, False, None,
        ("a",), ["a"], 1.5,
    ]


def full_net():
    """A net that has as many inputs, gates and table wires as it may."""
    gates = tuple((name, ("table", NAMES, rows_of(8)[1:200:7])) for name in NAMES[3:])
    return (NAMES[:3], gates, STARTS)


def nets_of_wrong_names():
    own = (("b", ("not", "b")),)
    found = []
    for name in wrong_names():
        found.append(((name,), own, (True, False)))
        found.append(((), ((name, ("and", ("b",))),) + own, (True, False)))
        found.append(((), ((name, ("same", name)),), (True,)))
    return found + [
        (("a", "a"), own, (True, True, False)), (("b",), own, (True, False)), (("b",), own, (True,)),
        ((), own + own, (True, False)), (("a", "c"), (("a", ("not", "a")),), (True, True, True)),
    ]


def nets_of_wrong_parts():
    inputs, gates, start = GOOD_NET
    first, many, long = full_net()
    extra = (("x", ("same", "a")),)
    return [
        (), (inputs,), (inputs, gates), (gates, start), GOOD_NET + ((),), GOOD_NET + (start,), (GOOD_NET,),
        list(GOOD_NET), (list(inputs), gates, start), (inputs, list(gates), start), (inputs, gates, list(start)),
        (inputs, tuple(list(gate) for gate in gates), start), (inputs, gates[:-1] + (list(gates[-1]),), start),
        (inputs, dict(gates), start), (gates, inputs, start), (inputs, (gates[0] + (True,),) + gates[1:], start),
        (inputs, (("c",),) + gates[1:], start), (inputs, ((),) + gates[1:], start), ("ab", gates, start),
        (inputs, ("ca",) + gates[1:], start), (first + ("x",), many[:4], long), (first + ("x",), many, long + (True,)),
        (first, many + extra, long + (True,)), (first, many + extra, long), ((), (), ()), (("a",), (), (True,)),
        (("a", "b", "c"), (), (True, False, True)), (inputs, (gates[0], gates), start),
    ]


def nets_of_wrong_starts():
    inputs, gates, start = GOOD_NET
    wrong_starts = [
        (), start[1:], start[:-1], start + (True,), start + start, (1, 0, 1, 1, 0, 1), (0,) + start[1:], (start,), True,
        start[:-1] + (1,), "101101", start[:-1] + (None,), ("on",) * 6, start[:-1] + ((True,),), 0, 6,
    ]
    return [(inputs, gates, thing) for thing in wrong_starts]


def wrong_nets():
    """Things that are no net: most would be one but for what they stand here for."""
    inputs, gates, start = GOOD_NET
    own = (("b", ("not", "b")),)
    found = [with_kind(kind) for kind in wrong_kinds()]
    found += nets_of_wrong_names() + nets_of_wrong_parts() + nets_of_wrong_starts()
    for odd in odd_things() + [1, 0, "on"]:
        found += [
            odd, (odd, gates, start), (inputs, odd, start), (inputs, gates, odd), (odd, odd, odd),
            ((odd,), own, (True, False)), ((), (odd,), (True,)), ((), ((odd, ("not", "b")),), (True,)),
            ((), (("b", odd),), (True,)), ((), own + (odd,), (True, True)), ((), own, (odd,)),
            (inputs, gates, start[:-1] + (odd,)),
        ]
    return found


TALK_NET = (("a", "b"), (("c", ("not", "a")), ("d", ("and", ("a", "b"))), ("e", ("or", ("c", "d")))), (False,) * 5)
GOOD_TALK = (("d", "c"), ((("a", 1), ("d", 2)), (("d", 1), ("b", 0), ("a", 2)), ()))


def talks():
    """Talks for TALK_NET, the edges of their bounds among them."""
    around = tuple((("a", (place + 1) % 12), ("b", place)) for place in range(12))
    return [
        GOOD_TALK, ((), ((),)), (("c",), ((),)), (("e", "d", "c"), ((),)), ((), ((("a", 0),),)), ((), ((), ())),
        (("c",), ((("c", 0),),)), (("d",), ((("b", 0), ("d", 0), ("a", 0)),)), (("c", "d"), around),
        ((), around[:11] + ((("b", 11),),)), ((), ((),) * 12),
        (("c", "d", "e"), ((("e", 0), ("d", 1), ("c", 0), ("b", 1), ("a", 0)), ())),
    ]


def wrong_states():
    """Things in the place of a talk's states, its outs being d and c."""
    return [
        (), [()], ((),) * 13, ((("a", 12),),) * 13, ((),) * 11 + ((("a", 12),),), {}, "", "a", 0, None, (0,), (None,),
        ([("a", 0)],), (["a", 0],), ({"a": 0},), ("a0",), ("",), ((), (), 1), ((), []),
        ((("a", 0), ("a", 0)),), ((("a", 0), ("a", 1)), ()), ((), (("d", 0), ("b", 1), ("d", 1))),
        ((("e", 0),),), ((("x", 0),),), ((("A", 0),),), ((("", 0),),), ((("out", 0),),), (((0, "a"),),),
        ((("a", 1),),), ((("a", 0), ("b", 2)), ()), ((), (("d", 2),)), ((("a", 10 ** 400),),), ((("a", 1 << 64),),),
        ((("a", -1),),), ((("a", -1),), ()), ((("d", 0), ("a", -2)), ()), ((("a", -(10 ** 400)),),),
        ((("a", True),), ()), ((("a", False),), ()), ((("a", 0), ("c", True)), ()), ((("a", 1.0),), ()),
        ((("a", "1"),), ()), ((("a", (1,)),), ()), ((("a", None),), ()), ((("a", "a"),),), ((("a", ()),),),
        ((("a",),),), ((("a", 0, 0),),), (((),),), (("a", 0),), (("a0",),), (("ab", "ba"),), ((["a", 0],),), (([],),),
    ]


def wrong_talks():
    """Things that are no talks for TALK_NET: most would be one but for what they stand here for."""
    outs, states = GOOD_TALK
    wrong_outs = [
        "", "c", "cd", [], ["d", "c"], {"d": 1, "c": 2}, ("d", "a", "c"), ("d", "c", "b"), ("d", "c", "x"), 0, None,
        ("d", "c", "c"), ("c", "d", "c"), ("d", "d", "c"), ("d", "c", 1), ("d", ("c",)), ("d", "c", "C"),
        ("d", "c", ""), ("d", "c", "e", "d"), ("d", "c", None), ("d", "c", True), ("c",), (),
    ]
    found = [(thing, states) for thing in wrong_outs] + [(outs, thing) for thing in wrong_states()]
    found += [
        (), (outs,), (states,), GOOD_TALK + ((),), (outs, states, 0), (states, outs), list(GOOD_TALK), "cd", True, 0,
        (("c",), ((("d", 0),),)), ((), ((("c", 0),),)), (("a",), ((),)), (("c", "c"), ((),)), (None,) * 2, (GOOD_TALK,),
    ]
    for odd in odd_things():
        found += [
            odd, (odd, states), (outs, odd), (outs, (odd,)), (outs, ((odd,),)), (outs, (((odd, 0),),)), (odd, odd),
            (outs, ((("a", odd),),)), (("d", "c", odd), states), (outs, states + (odd,)), (outs, ((("a", 0), odd),)),
        ]
    return found


STEADY = (
    ((), ((),)),
    (("c",), ((("a", 1),), (("c", 0),))),
    ((), ((("a", 1), ("b", 2)), (("b", 3),), (("a", 3),), ())),
    ((), ((("a", 0), ("b", 0)),)),
    ((), ((("b", 1), ("a", 2)), (("a", 3), ("b", 1)), (("b", 3), ("a", 0)), (("b", 3), ("a", 1)))),
    (("d",), ((("d", 1), ("a", 2)), (("a", 3),), (("d", 3),), (("b", 0),))),
    (("c", "d"), ((("c", 1), ("d", 2)), (("d", 3),), (("c", 3),), ())),
    ((), ((("a", 1), ("b", 0)), (("a", 0), ("b", 1)))),
    (
        ("c",),
        (
            (("a", 1), ("b", 2), ("c", 4)), (("b", 3), ("c", 5)), (("a", 3), ("c", 6)), (("c", 7),),
            (("a", 5), ("b", 6)), (("b", 7),), (("a", 7),), (),
        ),
    ),
)
UNSTEADY = (
    ((), ((("a", 1), ("b", 2)), (), (("a", 3),), ())),
    ((), ((("a", 1), ("b", 2)), (("b", 3),), (), ())),
    ((), ((("a", 1), ("b", 2)), (), (), ())),
    ((), ((("a", 1), ("b", 2)), (("b", 3),), (("a", 0),), ())),
    ((), ((("a", 1), ("b", 2)), (("b", 2),), (("a", 1),))),
    (("c",), ((("a", 1), ("c", 0)), ())),
    (("c",), ((("a", 1), ("c", 1)), (("c", 0), ("a", 1)))),
    (("c", "d"), ((("c", 1), ("d", 2)), (("d", 3),), (("c", 0),), ())),
    (("d",), ((("b", 0),), (("d", 2), ("a", 3)), (("a", 3),), ())),
    ((), ((), (("a", 2), ("b", 3)), (("b", 0),), (("a", 1),))),
    (
        ("c",),
        (
            (("a", 1), ("b", 2), ("c", 4)), (("b", 3), ("c", 5)), (("a", 3), ("c", 6)), (("c", 7),),
            (("a", 5), ("b", 6)), (("b", 7),), (("a", 0),), (),
        ),
    ),
    (
        ("c",),
        (
            (("a", 1), ("b", 2), ("c", 4)), (("b", 3), ("c", 5)), (("a", 3),), (("c", 7),),
            (("a", 5), ("b", 6)), (("b", 7),), (("a", 7),), (),
        ),
    ),
)


def wrong_numbers(least, most):
    """Things that are no whole numbers from the one to the other."""
    return odd_things() + [
        True, False, least - 1, most + 1, -1, -most, most * 10, 1.5, float(least), str(least), "1", (1,), [1], {1: 1},
        ((),), 1 << 64, -(10 ** 400), Odd,
    ]


def wrong_waits(number):
    """Things that are no waits for a net of so many wires."""
    good = tuple(range(1, number + 1))
    found = odd_things() + [
        list(good), dict.fromkeys(good), set(good), good[1:], good[:-1], good + (1,), good * 2, (), (good,), 1, number,
        "1" * number, b"1" * number, range(1, number + 1), True, iter(good), ((1,),) * number, (True,) * number,
        (0,) * number, (100,) * number,
    ]
    for place in range(number):
        for thing in wrong_numbers(1, 99):
            found.append(good[:place] + (thing,) + good[place + 1:])
    return found
