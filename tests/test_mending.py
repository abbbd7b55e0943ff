import copy
import sys
import unittest

from anywait.errors import NoNet, NoTalk
from anywait.mending import held
from anywait.nets import checked, waiting
from tests.families import GATES, Picker, all_pairs, chain, chains, meeting, ring, rings, with_gate
from tests.mend_model import depth_of, model_points, put_on
from tests.model import wires_of
from tests.samples import (
    GOOD_NET, Odd, deep_kind, nets, odd_things, refusal, rows_of, with_kind, wrong_names, wrong_nets,
)

POINT = ("d", "b", True)


def some_points(net, pick, number):
    return tuple(pick.one_of(model_points(net)) for again in range(number))


def without_points(net):
    """The net with its meeting points taken off, and these, inner ones first."""
    inputs, gates, start = net
    points, plain = [], []
    for name, kind in gates:
        found = []
        while kind[0] == "held":
            found.append((name, kind[2], kind[3]))
            kind = kind[1]
        points += reversed(found)
        plain.append((name, kind))
    return (inputs, tuple(plain), start), tuple(points)


def wrong_points():
    """Things that are no meeting points of GOOD_NET."""
    found = [
        (), ("d",), ("d", "b"), POINT + (True,), list(POINT), "dbt", ("b", "d", True), ("a", "b", True),
        ("x", "b", True), ("D", "b", True), ("", "b", True), ("gate", "b", True), ("d", "x", True), ("d", "B", False),
        ("d", "", True), ("d", "start", True), ("d", "b", 1), ("d", "b", 0), ("d", "b", "on"), ("d", "b", None),
        ("d", "b", 1.0), ("d", True, "b"), (True, "b", "d"), ("d", ("b",), True), (("d",), "b", True), (POINT,),
        ("d", "b", (True,)), (3, 1, True), ("held", "b", True), ("held", ("same", "a"), "b", True), ("d", "bb", True),
        {"d": "b"}, 3, True, ("d", 1, True), ("dd", "b", False), dict.fromkeys(POINT), ("d", "b", []),
    ]
    for odd in odd_things():
        found += [odd, (odd, "b", True), ("d", odd, True), ("d", "b", odd), (odd, odd, odd), POINT + (odd,)]
    for name in wrong_names():
        found += [(name, "b", True), ("d", name, True)]
    return found


class WorkedByHand(unittest.TestCase):
    def test_one_point(self):
        made = held(GOOD_NET, (POINT,))
        self.assertEqual(made, with_kind(("held", ("and", ("a", "c")), "b", True)))
        made = held(GOOD_NET, (("d", "d", False),))
        self.assertEqual(made, with_kind(("held", ("and", ("a", "c")), "d", False)))

    def test_one_behind_the_other(self):
        made = held(GOOD_NET, (("d", "b", True), ("d", "f", False), ("d", "a", True)))
        inner = ("held", ("and", ("a", "c")), "b", True)
        self.assertEqual(made, with_kind(("held", ("held", inner, "f", False), "a", True)))

    def test_points_at_several_gates(self):
        net = ((), (("g", ("same", "h")), ("h", ("not", "g"))), (False, True))
        made = held(net, (("h", "h", True), ("g", "g", False), ("h", "g", False)))
        self.assertEqual(made, ((), (
            ("g", ("held", ("same", "h"), "g", False)), ("h", ("held", ("held", ("not", "g"), "h", True), "g", False)),
        ), (False, True)))

    def test_none_leaves_the_net_as_it_is(self):
        self.assertEqual(held(GOOD_NET, ()), GOOD_NET)
        self.assertEqual(held(with_kind(deep_kind(3)), ()), with_kind(deep_kind(3)))

    def test_the_same_twice(self):
        once = ("held", ("and", ("a", "c")), "b", True)
        self.assertEqual(held(GOOD_NET, (POINT, POINT)), with_kind(("held", once, "b", True)))

    def test_where_the_gate_waits(self):
        net = (("a", "b"), (("c", ("same", "a")),), (False,) * 3)
        rows = {
            True: [(False, False, True), (True, True, False)], False: [(False, True, True), (True, False, False)],
        }
        for way in (True, False):
            made = held(net, (("c", "b", way),))
            self.assertEqual([row for row in rows_of(3) if waiting(made, row)], rows[way])

    def test_two_inputs_that_meet(self):
        net = meeting(("same", "a"))[0]
        both = meeting()[0]
        for row in rows_of(3):
            self.assertEqual(waiting(held(net, (("c", "b", True),)), row), waiting(both, row))


class Families(unittest.TestCase):
    def test_none_to_three_points(self):
        pick = Picker(81)
        numbers = [0, 0]
        for net, talk in all_pairs():
            for number in range(4):
                points = some_points(net, pick, number)
                expected = put_on(net, points)
                if expected is None:
                    self.assertIsInstance(refusal(held, net, points), NoTalk)
                else:
                    self.assertEqual(checked(held(net, points)), expected)
                numbers[expected is None] += 1
        self.assertGreater(min(numbers), 200, numbers)

    def test_nets_of_all_sizes_and_kinds(self):
        pick = Picker(83)
        for net in nets():
            points = some_points(net, pick, 2)
            expected = put_on(net, points)
            if expected is None:
                self.assertIsInstance(refusal(held, net, points), NoTalk)
            else:
                self.assertEqual(held(net, points), expected)

    def test_each_point_by_itself(self):
        for net, talk in (meeting(), chain(2), *rings()[:9]):
            for point in model_points(net):
                self.assertEqual(held(net, (point,)), put_on(net, (point,)))

    def test_a_gate_waits_where_it_did_and_the_wire_is_as_the_way_says(self):
        pick = Picker(85)
        for net, talk in all_pairs()[::4]:
            gate, wire, way = point = pick.one_of(model_points(net))
            made = put_on(net, (point,))
            if made is None:
                continue
            for row in rows_of(len(net[2])):
                values = dict(zip(wires_of(net), row))
                meets = (values[wire] == (not values[gate])) == way
                expected = [name for name in waiting(net, row) if name != gate or meets]
                self.assertEqual(waiting(held(net, (point,)), row), expected)

    def test_points_taken_off_and_put_on_again(self):
        looked = 0
        for net in [net for net, talk in chains() + rings()] + nets():
            plain, points = without_points(net)
            self.assertEqual(held(plain, points), net)
            looked += len(points) > 0
        self.assertGreater(looked, 100)

    def test_chains_and_rings_of_gates_that_follow_one_another(self):
        net = ((), (("g", ("same", "m")), ("h", ("same", "g")), ("m", ("same", "h"))), (True, False, False))
        points = (("g", "h", False), ("h", "m", False), ("m", "g", False))
        self.assertEqual(held(net, points), ring((True, False, False))[0])
        net = (("r", "k"), (("g", ("same", "r")), ("h", ("same", "g"))), (False,) * 4)
        self.assertEqual(held(net, (("h", "k", False), ("g", "h", False))), chain(2)[0])

    def test_the_order_of_points_at_unlike_gates_is_all_the_same(self):
        pick = Picker(87)
        for net, talk in all_pairs()[::7]:
            points = some_points(net, pick, 2)
            if points[0][0] != points[1][0] and put_on(net, points) is not None:
                self.assertEqual(held(net, points), held(net, points[::-1]))

    def test_one_call_or_several(self):
        pick = Picker(89)
        for net, talk in all_pairs()[::7]:
            points = some_points(net, pick, 3)
            if put_on(net, points) is not None:
                self.assertEqual(held(held(net, points[:1]), points[1:]), held(net, points))


class Depth(unittest.TestCase):
    def test_as_deep_as_may_be(self):
        for depth in range(4):
            net = with_kind(deep_kind(depth))
            for number in range(6):
                points = (POINT,) * number
                if depth + number <= 3:
                    self.assertEqual(depth_of(dict(held(net, points)[1])["d"]), depth + number)
                else:
                    self.assertIsInstance(refusal(held, net, points), NoTalk)

    def test_four_at_one_gate_among_others(self):
        four = (POINT,) * 3 + (("c", "a", False), ("d", "a", False))
        self.assertIsInstance(refusal(held, GOOD_NET, four), NoTalk)
        self.assertIsNone(refusal(held, GOOD_NET, four[:-1]))
        self.assertIsInstance(refusal(held, GOOD_NET, (POINT,) * 100000), NoTalk)

    def test_three_at_each_gate(self):
        net = ((), tuple((name, ("not", name)) for name in GATES), (False,) * 5)
        points = tuple((name, "g", True) for again in range(3) for name in GATES)
        made = held(net, points)
        self.assertEqual([depth_of(kind) for name, kind in made[1]], [3] * 5)
        self.assertIsInstance(refusal(held, net, points + (("p", "g", True),)), NoTalk)


class Refusals(unittest.TestCase):
    def test_what_are_no_points(self):
        wrong = [
            None, [], [POINT], POINT, "", "dbt", 0, True, {}, {POINT: True}, set(), {POINT}, frozenset((POINT,)),
            iter((POINT,)), range(0), ((POINT,),), (POINT, [POINT]), list((POINT, POINT)), ("dbt",), (None,),
            ([*POINT],), (POINT, None), (POINT, ()), (((),),),
        ]
        for thing in wrong + [odd for odd in odd_things()]:
            self.assertIsInstance(refusal(held, GOOD_NET, thing), NoTalk)

    def test_what_is_no_point(self):
        for thing in wrong_points():
            for points in ((thing,), (POINT, thing), (thing, POINT), (POINT, POINT, thing)):
                self.assertIsInstance(refusal(held, GOOD_NET, points), NoTalk)

    def test_spoilt_points_of_the_families(self):
        pick = Picker(91)
        for net, talk in all_pairs()[::3]:
            gate, wire, way = point = pick.one_of(model_points(net))
            spoilt = [
                ("q", wire, way), (gate, "q", way), (gate, wire, None), (gate, wire, int(way)), [gate, wire, way], None,
                (gate, wire), (wire, way, gate), (gate, wire, way, way),
            ]
            spoilt += [(name, wire, way) for name in net[0]]
            for thing in spoilt:
                self.assertIsInstance(refusal(held, net, (thing,)), NoTalk)
            self.assertIsInstance(refusal(held, net, (point,) * 4), NoTalk)
            self.assertIsInstance(refusal(held, net, [point]), NoTalk)

    def test_what_is_no_net(self):
        for thing in wrong_nets():
            self.assertIsInstance(refusal(held, thing, (POINT,)), NoNet)
            self.assertIsInstance(refusal(held, thing, ()), NoNet)

    def test_the_refusal_that_is_named_first(self):
        for net in (None, Odd(), list(GOOD_NET), with_kind(deep_kind(4)), GOOD_NET[:2]):
            for points in (None, Odd(), [POINT], (POINT,) * 4, (("a", "b", True),), (("d", "b", 1),)):
                self.assertIsInstance(refusal(held, net, points), NoNet)


class NothingChangedOrKept(unittest.TestCase):
    def test_equal_things_give_equal_answers(self):
        pick = Picker(93)
        for net, talk in all_pairs()[::9]:
            points = some_points(net, pick, 1)
            if put_on(net, points) is not None:
                other, same = copy.deepcopy([net, points])
                self.assertEqual(held(other, same), held(net, points))
                self.assertEqual([other, same], [net, points])

    def test_what_is_handed_in_is_not_kept(self):
        net = with_gate(*copy.deepcopy([GOOD_NET, 1, ("not", "a")]))
        points = tuple([("d", "b", True)])
        before = [sys.getrefcount(thing) for thing in (net, points, points[0])]
        held(net, points)
        self.assertEqual([sys.getrefcount(thing) for thing in (net, points, points[0])], before)


if __name__ == "__main__":
    unittest.main()
