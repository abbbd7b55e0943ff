import copy
import sys
import unittest

from anywait.errors import NoNet, TooBig, Unlike
from anywait.faults import fault
from anywait.joining import joined
from anywait.nets import checked, waiting, wires
from tests.families import GATES, Picker, all_pairs, chain, chains, meeting, ring, rings
from tests.model import wires_of
from tests.renaming import OTHER_NAMES, named_otherwise
from tests.samples import GOOD_NET, TALK_NET, Odd, full_net, nets, odd_things, refusal, rows_of, wrong_nets

FEW = ("a", "b", "c", "d", "e", "f", "x", "y")


def model_joined(one, other):
    """The joined net; or the text Unlike or TooBig."""
    gates = [*one[1], *other[1]]
    driven = {name for name, kind in gates}
    starts = {*zip(wires_of(one), one[2]), *zip(wires_of(other), other[2])}
    if len(driven) < len(gates) or len(starts) > len({name for name, value in starts}):
        return "Unlike"
    inputs = []
    for name in [*one[0], *other[0]]:
        if name not in driven and name not in inputs:
            inputs.append(name)
    if len(inputs) > 3 or len(gates) > 5:
        return "TooBig"
    names = inputs + [name for name, kind in gates]
    return (tuple(inputs), tuple(gates), tuple(dict(starts)[name] for name in names))


def named_anew(net, pick, names):
    """The net with some of these names, in any order."""
    left = sorted(names, key=lambda name: pick.below(1000))
    return named_otherwise(net, dict(zip(wires_of(net), left)))


def started_like(net, other, pick):
    """The net, its wires starting as those of one name do in the other one, mostly all of them."""
    values = dict(zip(wires_of(other), other[2]))
    start = [values.get(name, value) if pick.below(25) else value for name, value in zip(wires_of(net), net[2])]
    return (net[0], net[1], tuple(start))


def some_two(pick, sources, names):
    one = named_anew(pick.one_of(sources), pick, names)
    other = named_anew(pick.one_of(sources), pick, names)
    return one, started_like(other, one, pick)


def small_nets():
    return [net for net, talk in all_pairs() if len(net[1]) < 4] + [net for net in nets() if len(net[1]) < 3]


class WorkedByHand(unittest.TestCase):
    def test_gates_of_other_names(self):
        one = (("a",), (("g", ("not", "a")),), (True, False))
        other = (("b",), (("h", ("same", "b")),), (False, True))
        self.assertEqual(joined(one, other), (
            ("a", "b"), (("g", ("not", "a")), ("h", ("same", "b"))), (True, False, False, True),
        ))
        self.assertEqual(joined(other, one), (
            ("b", "a"), (("h", ("same", "b")), ("g", ("not", "a"))), (False, True, True, False),
        ))

    def test_an_input_of_the_one_that_is_a_gate_of_the_other(self):
        one = (("a", "b"), (("c", ("both", ("a", "b"))),), (False, True, False))
        other = (("c", "d"), (("b", ("or", ("c", "d"))),), (False, True, True))
        self.assertEqual(joined(one, other), (
            ("a", "d"), (("c", ("both", ("a", "b"))), ("b", ("or", ("c", "d")))), (False, True, False, True),
        ))
        self.assertEqual(joined(other, one), (
            ("d", "a"), (("b", ("or", ("c", "d"))), ("c", ("both", ("a", "b")))), (True, False, True, False),
        ))

    def test_inputs_of_both(self):
        one = (("a", "b", "c"), (("g", ("same", "a")),), (True, False, True, True))
        other = (("c", "b", "a"), (("h", ("same", "c")),), (True, False, True, False))
        self.assertEqual(joined(one, other), (
            ("a", "b", "c"), (("g", ("same", "a")), ("h", ("same", "c"))), (True, False, True, True, False),
        ))
        self.assertEqual(joined(other, one)[0], ("c", "b", "a"))

    def test_two_that_close_a_ring(self):
        one = (("b",), (("a", ("not", "b")),), (False, True))
        gates = (("b", ("same", "a")),)
        whole = ((), one[1] + gates, (True, False))
        self.assertEqual(joined(one, (("a",), gates, (True, False))), whole)
        self.assertIsInstance(refusal(joined, one, (("a",), gates, (False, False))), Unlike)
        self.assertIsInstance(refusal(joined, one, (("a",), gates, (True, True))), Unlike)

    def test_chains_one_behind_the_other(self):
        net = chain(2)[0]
        front = named_otherwise(net, {"k": "m"})
        back = named_otherwise(net, {"r": "h", "g": "m", "h": "n"})
        self.assertEqual(joined(front, back), chain(4)[0])
        self.assertIsNone(fault(joined(front, back), chain(4)[1]))

    def test_with_itself_a_net_is_unlike(self):
        for net in nets()[::40] + [GOOD_NET, TALK_NET]:
            self.assertIsInstance(refusal(joined, net, net), Unlike)


class WhatIsRefused(unittest.TestCase):
    def test_a_gate_in_both(self):
        one = (("a",), (("g", ("not", "a")),), (True, False))
        for kind in (("not", "a"), ("same", "a"), ("and", ("a", "g"))):
            self.assertIsInstance(refusal(joined, one, (("a",), (("g", kind),), (True, False))), Unlike)

    def test_starts_unlike(self):
        one = (("a",), (("g", ("not", "a")),), (True, False))
        for other in (
            (("a",), (("h", ("not", "a")),), (False, False)),
            (("g",), (("h", ("not", "g")),), (True, False)),
            ((), (("a", ("not", "a")),), (False,)),
            (("b", "a"), (("h", ("not", "a")),), (True, False, False)),
        ):
            self.assertIsInstance(refusal(joined, one, other), Unlike)
            self.assertIsInstance(refusal(joined, other, one), Unlike)

    def test_how_many_inputs(self):
        one = (("a", "b"), (("g", ("not", "a")),), (True,) * 3)
        other = (("c", "d"), (("h", ("not", "c")),), (True,) * 3)
        self.assertIsInstance(refusal(joined, one, other), TooBig)
        for name in ("a", "b", "g"):
            fewer = named_otherwise(other, {"d": name})
            self.assertEqual(len(joined(one, fewer)[0]), 3)
            self.assertEqual(len(joined(fewer, one)[0]), 3)
        three = (("a", "b", "c"), (("g", ("not", "a")),), (True,) * 4)
        self.assertEqual(joined(three, named_otherwise(other, {"d": "b"}))[0], ("a", "b", "c"))
        self.assertIsInstance(refusal(joined, three, other), TooBig)
        self.assertEqual(len(joined(three, named_otherwise(other, {"h": "b"}))[0]), 3)

    def test_how_many_gates(self):
        def net(names):
            return ((), tuple((name, ("not", name)) for name in names), (False,) * len(names))

        names = ("a", "b", "c", "d", "e", "f", "g", "h", "i", "j")
        for first in range(1, 6):
            for second in range(1, 6):
                pair = net(names[:first]), net(names[-second:])
                if first + second > 5:
                    self.assertIsInstance(refusal(joined, *pair), TooBig)
                else:
                    self.assertEqual(joined(*pair), net(names[:first] + names[-second:]))

    def test_both_too_many(self):
        other = named_otherwise(full_net(), dict(zip(wires_of(full_net()), FEW[1:] + ("v",))))
        self.assertIsInstance(refusal(joined, full_net(), other), TooBig)

    def test_unlike_is_told_ahead_of_too_big(self):
        one = (("a", "b"), (("g", ("not", "a")),), (True,) * 3)
        self.assertIsInstance(refusal(joined, one, (("c", "d"), (("g", ("not", "c")),), (True,) * 3)), Unlike)
        more = (("c", "d", "a"), (("h", ("not", "c")),))
        self.assertIsInstance(refusal(joined, one, more + ((True, True, False, True),)), Unlike)
        self.assertIsInstance(refusal(joined, one, more + ((True,) * 4,)), TooBig)
        five = ((), tuple((name, ("not", name)) for name in GATES), (True,) * 5)
        self.assertIsInstance(refusal(joined, five, five), Unlike)
        self.assertIsInstance(refusal(joined, five, (("p",), (("x", ("same", "p")),), (False, True))), Unlike)
        self.assertIsInstance(refusal(joined, five, (("p",), (("x", ("same", "p")),), (True, True))), TooBig)


class Families(unittest.TestCase):
    def test_the_joined_net(self):
        pick = Picker(101)
        sources = small_nets()
        numbers = {}
        for again in range(6000):
            names = FEW if again % 3 else FEW + OTHER_NAMES[:6]
            one, other = some_two(pick, sources, names)
            expected = model_joined(one, other)
            if isinstance(expected, str):
                error = {"Unlike": Unlike, "TooBig": TooBig}[expected]
                self.assertIsInstance(refusal(joined, one, other), error, (one, other))
            else:
                self.assertEqual(checked(joined(one, other)), expected)
            number = expected if isinstance(expected, str) else len(set(one[0] + other[0]) - set(expected[0]))
            numbers[number] = numbers.get(number, 0) + 1
        self.assertGreater(min(numbers[key] for key in (0, 1, 2, 3, "Unlike", "TooBig")), 50, numbers)

    def test_just_those_gates_wait_that_wait_in_the_one_or_in_the_other(self):
        pick = Picker(103)
        sources = small_nets()
        looked = 0
        while looked < 150:
            one, other = some_two(pick, sources, FEW + OTHER_NAMES[:2])
            if isinstance(model_joined(one, other), str):
                continue
            looked += 1
            net = joined(one, other)
            for row in rows_of(len(net[2])):
                values = dict(zip(wires(net), row))
                apart = [waiting(part, tuple(values[name] for name in wires(part))) for part in (one, other)]
                self.assertEqual(waiting(net, row), apart[0] + apart[1])

    def test_wires_start_as_they_do_apart(self):
        pick = Picker(105)
        sources = small_nets()
        for again in range(2000):
            one, other = some_two(pick, sources, FEW)
            if not isinstance(model_joined(one, other), str):
                values = dict(zip(wires(joined(one, other)), joined(one, other)[2]))
                for part in (one, other):
                    self.assertEqual(tuple(values[name] for name in wires(part)), part[2])
                self.assertEqual(set(values), {*wires(one), *wires(other)})

    def test_the_other_way_round_only_the_order_is_another(self):
        pick = Picker(107)
        sources = small_nets()
        for again in range(2000):
            one, other = some_two(pick, sources, FEW)
            if isinstance(model_joined(one, other), str):
                self.assertIsInstance(refusal(joined, other, one), type(refusal(joined, one, other)))
            else:
                there, back = joined(one, other), joined(other, one)
                self.assertEqual((set(there[0]), dict(there[1])), (set(back[0]), dict(back[1])))
                self.assertEqual(dict(zip(wires(there), there[2])), dict(zip(wires(back), back[2])))

    def test_a_net_taken_apart_gate_by_gate(self):
        for net, talk in [meeting(), *chains(), *rings()]:
            values = dict(zip(wires_of(net), net[2]))
            parts = []
            for name, kind in net[1]:
                others = [wire for wire in wires_of(net) if wire != name and repr(wire) in repr(kind)]
                parts.append((tuple(others), ((name, kind),), tuple(values[wire] for wire in others) + (values[name],)))
            whole = parts[0]
            for part in parts[1:]:
                whole = joined(whole, part)
            self.assertEqual(whole[1], net[1])
            self.assertEqual(set(whole[0]), set(net[0]))
            self.assertEqual(dict(zip(wires(whole), whole[2])), values)


class Refusals(unittest.TestCase):
    def test_what_is_no_net(self):
        good = (("y",), (("z", ("same", "y")),), (True, True))
        for thing in wrong_nets():
            self.assertIsInstance(refusal(joined, thing, good), NoNet)
            self.assertIsInstance(refusal(joined, good, thing), NoNet)

    def test_the_refusal_that_is_named_first(self):
        for thing in odd_things() + [list(GOOD_NET), GOOD_NET[:2], (), ((), (), ()), 0, "net"]:
            for other in (GOOD_NET, Odd(), None, full_net()):
                self.assertIsInstance(refusal(joined, thing, other), NoNet)
                self.assertIsInstance(refusal(joined, other, thing), NoNet)
        twice = (("a",), (("g", ("not", "x")),), (True, False))
        self.assertIsInstance(refusal(joined, twice, (("a",), (("g", ("not", "a")),), (True, False))), NoNet)
        four = (FEW[:4], (("g", ("not", "a")),), (True,) * 5)
        self.assertIsInstance(refusal(joined, four, (("a",), (("h", ("not", "a")),), (True, False))), NoNet)
        six = ((), tuple((name, ("not", name)) for name in FEW[:6]), (True,) * 6)
        self.assertIsInstance(refusal(joined, six, (("a",), (("h", ("not", "a")),), (True, False))), NoNet)


class NothingChangedOrKept(unittest.TestCase):
    def test_equal_things_give_equal_answers(self):
        pick = Picker(109)
        for again in range(300):
            pair = some_two(pick, small_nets()[::9], FEW)
            if not isinstance(model_joined(*pair), str):
                other = copy.deepcopy(list(pair))
                self.assertEqual(joined(*other), joined(*pair))
                self.assertEqual(other, list(pair))

    def test_what_is_handed_in_is_not_kept(self):
        things = copy.deepcopy([ring((True, False))[0], (("g", "a"), (("z", ("same", "a")),), (True,) * 3)])
        before = [sys.getrefcount(thing) for thing in things]
        joined(*things)
        self.assertEqual([sys.getrefcount(thing) for thing in things], before)


if __name__ == "__main__":
    unittest.main()
