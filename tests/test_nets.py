import copy
import sys
import unittest

from anywait.errors import NoNet, NoTalk
from anywait.nets import checked, waiting, wires
from tests.samples import (
    GOOD_NET, STARTS, deep_kind, full_net, nets, refusal, rows_of, with_kind, wrong_names, wrong_nets,
)


class NetsThatAreNets(unittest.TestCase):
    def test_checked_tells_the_net_and_wires_its_wires_in_order(self):
        for net in nets():
            expected = [*net[0], *(name for name, kind in net[1])]
            self.assertEqual(checked(net), net)
            self.assertEqual(wires(net), expected)
            self.assertIsInstance(wires(net), list)

    def test_the_samples_reach_every_number_of_inputs_and_gates_and_every_kind(self):
        sizes = {(len(net[0]), len(net[1])) for net in nets()}
        words = {kind[0] for net in nets() for name, kind in net[1]}
        self.assertEqual(sizes, {(inputs, gates) for inputs in range(4) for gates in range(1, 6)})
        self.assertEqual(words, {"same", "not", "and", "or", "both", "table", "held"})

    def test_the_greatest_net(self):
        net = full_net()
        self.assertEqual(checked(net), net)
        self.assertEqual(wires(net), ["a", "bc", "def", "ghij", "klmno", "pqrstu", "z", "inputs"])

    def test_a_table_of_eight_wires_with_none_and_with_all_rows(self):
        inputs, gates, start = full_net()
        for rows in ((), rows_of(8), rows_of(8)[:1], rows_of(8)[-1:]):
            net = (inputs, gates[:-1] + ((gates[-1][0], ("table", gates[0][1][1], rows)),), start)
            self.assertEqual(checked(net), net)

    def test_names_at_the_edges(self):
        for name in ("a", "z", "abcdef", "zzzzzz", "inputs", "o", "nots", "ins", "starts", "outs", "xor", "offs"):
            net = ((), ((name, ("not", name)),), (False,))
            self.assertEqual(checked(net), net)
            self.assertEqual(wires(net), [name])

    def test_held_up_to_three_deep(self):
        for depth in range(4):
            net = with_kind(deep_kind(depth))
            self.assertEqual(checked(net), net)

    def test_a_wire_may_be_the_gates_own_or_a_later_one(self):
        for kind in (("same", "d"), ("and", ("f", "d")), ("held", ("not", "d"), "d", False)):
            self.assertEqual(checked(with_kind(kind)), with_kind(kind))

    def test_wires_that_a_table_may_have_and_others_may_not(self):
        kind = ("table", ("a", "b", "c", "d", "e"), ())
        self.assertEqual(checked(with_kind(kind)), with_kind(kind))
        self.assertIsInstance(refusal(checked, with_kind(("and", kind[1]))), NoNet)


class NetsThatAreNone(unittest.TestCase):
    def test_each_is_refused_with_no_net(self):
        for place, thing in enumerate(wrong_nets()):
            for call in (checked, wires):
                error = refusal(call, thing)
                self.assertIsInstance(error, NoNet, (place, call))
                self.assertIsInstance(error, ValueError)
                self.assertNotIsInstance(error, NoTalk)

    def test_waiting_refuses_them_whatever_the_setting(self):
        for place, thing in enumerate(wrong_nets()):
            for setting in ((), STARTS[:6], None):
                self.assertIsInstance(refusal(waiting, thing, setting), NoNet, place)

    def test_wrong_names_are_no_wires_of_a_kind(self):
        for place, name in enumerate(wrong_names()):
            held = ("held", ("same", "a"), name, True)
            for kind in (("same", name), ("or", ("a", name)), ("table", (name,), ()), held):
                self.assertIsInstance(refusal(checked, with_kind(kind)), NoNet, place)


class NothingChangedOrKept(unittest.TestCase):
    def test_lists_are_new_ones_each_time(self):
        for call in (wires, lambda net: waiting(net, net[2])):
            first = call(GOOD_NET)
            kept = list(first)
            first.append("other")
            self.assertEqual(call(GOOD_NET), kept)
            self.assertIsNot(call(GOOD_NET), call(GOOD_NET))

    def test_equal_nets_give_equal_answers(self):
        for net in nets()[::50]:
            other = copy.deepcopy([net])[0]
            self.assertEqual(wires(net), wires(other))
            self.assertEqual(waiting(net, net[2]), waiting(other, other[2]))

    def test_what_is_handed_in_is_not_changed(self):
        thing = [["a"], [["b", ["not", "b"]]], [True, False]]
        for wrong in (thing, tuple(thing), (("a",), (["b", ["not", "b"]],), [True, False])):
            before = copy.deepcopy(wrong)
            self.assertIsInstance(refusal(checked, wrong), NoNet)
            self.assertEqual(wrong, before)

    def test_what_is_handed_in_is_not_kept(self):
        net = tuple([(), tuple([("b", ("not", "b"))]), tuple([True])])
        setting = tuple([False])
        before = (sys.getrefcount(net), sys.getrefcount(setting))
        checked(net)
        wires(net)
        waiting(net, setting)
        self.assertEqual((sys.getrefcount(net), sys.getrefcount(setting)), before)


if __name__ == "__main__":
    unittest.main()
