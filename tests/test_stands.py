import copy
import sys
import unittest

from anywait.errors import NoNet, NoTalk
from anywait.stands import stands, steps
from tests.families import all_pairs, chain, great_pairs, meeting, ring
from tests.model import first_runs, model_stands, model_steps, shown, wires_of
from tests.samples import GOOD_TALK, TALK_NET, Odd, refusal, rows_of, wrong_nets, wrong_talks


def stand(digits, state):
    """A stand, its setting told by digits."""
    return (tuple(digit == "1" for digit in digits), state)


class StandsWorkedByHand(unittest.TestCase):
    def test_two_inputs_that_meet_in_a_both(self):
        net, talk = meeting()
        expected = [
            ("000", 0, "ab"), ("100", 1, "b"), ("010", 2, "a"), ("110", 3, "c"),
            ("111", 0, "ab"), ("011", 1, "b"), ("101", 2, "a"), ("001", 3, "c"),
        ]
        self.assertEqual(stands(net, talk), [stand(digits, state) for digits, state, names in expected])
        for digits, state, names in expected:
            self.assertEqual(steps(net, talk, stand(digits, state)), list(names))

    def test_an_unasked_step_is_a_step_and_leads_to_no_stand(self):
        net, talk = meeting(("or", ("a", "b")))
        expected = [
            ("000", 0, "ab"), ("100", 1, "bc"), ("010", 2, "ac"), ("110", 3, "c"), ("111", 0, "ab"),
            ("011", 1, "b"), ("101", 2, "a"), ("001", 3, "c"),
        ]
        self.assertEqual(stands(net, talk), [stand(digits, state) for digits, state, names in expected])
        for digits, state, names in expected:
            self.assertEqual(steps(net, talk, stand(digits, state)), list(names))

    def test_a_chain_of_two(self):
        net, talk = chain(2)
        self.assertEqual(wires_of(net), ["r", "k", "g", "h"])
        expected = [
            ("0000", 0, "r"), ("1000", 1, "g"), ("1010", 0, "rh"), ("0010", 1, "h"), ("1011", 2, "rk"),
            ("0011", 3, "kg"), ("1111", 0, "r"), ("0111", 1, "g"), ("0001", 2, "rk"), ("0101", 0, "rh"),
            ("1001", 3, "k"), ("1101", 1, "h"), ("0100", 2, "rk"), ("1100", 3, "kg"), ("1110", 2, "rk"),
            ("0110", 3, "k"),
        ]
        self.assertEqual(stands(net, talk), [stand(digits, state) for digits, state, names in expected])
        for digits, state, names in expected:
            self.assertEqual(steps(net, talk, stand(digits, state)), list(names))

    def test_a_ring_of_three(self):
        net, talk = ring((True, False, False))
        expected = [("100", "h"), ("110", "g"), ("010", "m"), ("011", "h"), ("001", "g"), ("101", "m")]
        self.assertEqual(stands(net, talk), [stand(digits, 0) for digits, names in expected])
        for digits, names in expected:
            self.assertEqual(steps(net, talk, stand(digits, 0)), list(names))

    def test_one_stand_without_steps(self):
        net = ((), (("g", ("same", "g")),), (True,))
        for talk in (((), ((),)), (("g",), ((("g", 0),),)), (("g",), ((("g", 1),), ()))):
            self.assertEqual(stands(net, talk), [((True,), 0)])
            self.assertEqual(steps(net, talk, ((True,), 0)), [])

    def test_unseen_gates_leave_the_state(self):
        net = (("a",), (("g", ("same", "a")),), (False, False))
        talk = ((), ((("a", 1),), ()))
        self.assertEqual(stands(net, talk), [stand("00", 0), stand("10", 1), stand("11", 1)])

    def test_a_move_into_the_same_state_and_one_into_another(self):
        net = ((), (("g", ("not", "g")),), (False,))
        self.assertEqual(stands(net, (("g",), ((("g", 0),),))), [stand("0", 0), stand("1", 0)])
        self.assertEqual(
            stands(net, (("g",), ((("g", 1),), (("g", 2),), (("g", 1),)))),
            [stand("0", 0), stand("1", 1), stand("0", 2)],
        )

    def test_steps_stand_in_the_order_of_the_wires_whatever_the_order_of_moves_and_outs(self):
        gates = (("z", ("not", "z")), ("b", ("not", "b")), ("m", ("same", "m")), ("a", ("not", "a")))
        net = (("y", "c"), gates, (False,) * 6)
        moves = (("a", 0), ("c", 0), ("b", 0), ("y", 0), ("z", 0))
        for talk in ((("a", "b", "z"), (moves,)), (("z", "a", "b"), (moves[::-1],))):
            self.assertEqual(steps(net, talk, ((False,) * 6, 0)), ["y", "c", "z", "b", "a"])
        self.assertEqual(steps(net, (("m",), ((("m", 0), ("c", 0)),)), ((True,) * 6, 0)), ["c", "z", "b", "a"])

    def test_the_stand_counts_and_not_the_start(self):
        net, talk = meeting()
        other = (net[0], net[1], (True, True, True))
        for digits, state, names in (("110", 3, "c"), ("110", 0, "abc"), ("011", 3, ""), ("001", 1, "bc")):
            for one in (net, other):
                self.assertEqual(steps(one, talk, stand(digits, state)), list(names))

    def test_an_input_that_the_state_does_not_have_is_no_step(self):
        net = (("a", "b"), (("g", ("same", "g")),), (False,) * 3)
        self.assertEqual(stands(net, ((), ((("b", 0),),))), [stand("000", 0), stand("010", 0)])
        self.assertEqual(stands(net, ((), ((),))), [stand("000", 0)])


class StandsInOrder(unittest.TestCase):
    def test_stands_and_their_steps(self):
        for net, talk in all_pairs() + great_pairs():
            found = list(first_runs(net, talk))
            self.assertEqual(stands(net, talk), [shown(net, one) for one in found], (net, talk))
            for one in found:
                told = steps(net, talk, shown(net, one))
                self.assertEqual(told, model_steps(net, talk, one), (net, talk, one))
                self.assertIsInstance(told, list)

    def test_stands_that_do_not_come_have_steps_too(self):
        for net, talk in all_pairs()[::9]:
            for setting in rows_of(len(net[2])):
                for state in range(len(talk[1])):
                    on = frozenset(name for name, value in zip(wires_of(net), setting) if value)
                    self.assertEqual(steps(net, talk, (setting, state)), model_steps(net, talk, (on, state)))

    def test_the_form_of_a_stand(self):
        for net, talk in all_pairs()[::7]:
            told = stands(net, talk)
            self.assertIsInstance(told, list)
            self.assertEqual(told[0], (net[2], 0))
            self.assertEqual(len(set(told)), len(told))
            for setting, state in told:
                self.assertEqual({value.__class__ for value in setting}, {bool})
                self.assertEqual((setting.__class__, state.__class__, len(setting)), (tuple, int, len(net[2])))

    def test_the_samples_reach_every_size(self):
        sizes = {(len(net[0]), len(net[1]), len(talk[1])) for net, talk in all_pairs()}
        wanted = {(inputs, gates, states) for inputs in range(3) for gates in range(1, 5) for states in range(1, 5)}
        self.assertEqual(wanted - sizes, set())
        self.assertTrue(any(not talk[0] for net, talk in all_pairs()))
        self.assertEqual([len(model_stands(net, talk)) for net, talk in great_pairs()], [768, 384])


class Refusals(unittest.TestCase):
    def test_what_is_no_net(self):
        for place, thing in enumerate(wrong_nets()):
            for talk in (GOOD_TALK, None):
                self.assertIsInstance(refusal(stands, thing, talk), NoNet, place)
                self.assertIsInstance(refusal(steps, thing, talk, (TALK_NET[2], 0)), NoNet, place)

    def test_what_is_no_talk(self):
        for place, thing in enumerate(wrong_talks()):
            self.assertIsInstance(refusal(stands, TALK_NET, thing), NoTalk, place)
            self.assertIsInstance(refusal(steps, TALK_NET, thing, (TALK_NET[2], 0)), NoTalk, place)
            self.assertIsInstance(refusal(stands, list(TALK_NET), thing), NoNet, place)
            self.assertIsInstance(refusal(steps, list(TALK_NET), thing, (TALK_NET[2], 0)), NoNet, place)

    def test_things_that_answer_nothing(self):
        self.assertIsInstance(refusal(stands, Odd(), Odd()), NoNet)
        self.assertIsInstance(refusal(steps, Odd(), Odd(), Odd()), NoNet)
        self.assertIsInstance(refusal(stands, TALK_NET, Odd()), NoTalk)
        self.assertIsInstance(refusal(steps, TALK_NET, Odd(), Odd()), NoTalk)


class NothingChangedOrKept(unittest.TestCase):
    def test_lists_are_new_ones_each_time(self):
        net, talk = chain(2)
        for call in (stands, lambda net, talk: steps(net, talk, (net[2], 0))):
            first = call(net, talk)
            kept = list(first)
            first.clear()
            self.assertEqual(call(net, talk), kept)
            self.assertIsNot(call(net, talk), call(net, talk))

    def test_equal_things_give_equal_answers(self):
        for net, talk in all_pairs()[::40]:
            other_net, other_talk = copy.deepcopy([[net], [talk]])
            self.assertEqual(stands(net, talk), stands(other_net[0], other_talk[0]))
            self.assertEqual(
                steps(net, talk, (net[2], 0)), steps(other_net[0], other_talk[0], (tuple(list(net[2])), 0)),
            )

    def test_what_is_handed_in_is_not_kept(self):
        net = tuple([tuple(["a", "b"]), tuple([("c", ("both", ("a", "b")))]), tuple([True, False, True])])
        talk = tuple([tuple(["c"]), tuple([tuple([("a", 0), ("b", 0)])])])
        one = tuple([tuple([True, True, False]), 0])
        things = (net, net[2], talk, talk[1], one, one[0])
        before = [sys.getrefcount(thing) for thing in things]
        stands(net, talk)
        steps(net, talk, one)
        self.assertEqual([sys.getrefcount(thing) for thing in things], before)


if __name__ == "__main__":
    unittest.main()
