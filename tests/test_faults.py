import copy
import sys
import unittest

from anywait.errors import NoNet, NoTalk
from anywait.faults import fault
from tests.families import all_pairs, chain, chains, great_pairs, meeting, meetings_with_more, ring, rings
from tests.model import all_faults, faults_at, first_runs, model_behind, model_fault, model_steps
from tests.samples import GOOD_TALK, TALK_NET, Odd, refusal, wrong_nets, wrong_talks

CROSS = (("x", ("not", "y")), ("y", ("not", "x")))


class FaultsWorkedByHand(unittest.TestCase):
    def test_two_inputs_that_meet(self):
        for kind, told in (
            (("both", ("a", "b")), None),
            (("and", ("a", "b")), ("unasked", list("abcac"))),
            (("or", ("a", "b")), ("unasked", list("ac"))),
            (("same", "b"), ("unasked", list("bc"))),
            (("not", "a"), ("taken", list("a"), "c")),
            (("not", "c"), ("unasked", list("c"))),
            (("table", ("a", "b"), ()), ("stuck", list("ab"))),
            (("held", ("same", "a"), "b", True), None),
            (("held", ("same", "a"), "b", False), ("taken", list("ab"), "c")),
        ):
            self.assertEqual(fault(*meeting(kind)), told, kind)

    def test_stuck_at_the_beginning_and_further_on(self):
        net = (("a",), (("g", ("same", "g")),), (False, False))
        self.assertEqual(fault(net, (("g",), ((("g", 0),),))), ("stuck", []))
        self.assertEqual(fault(net, (("g",), ((("a", 1),), (("g", 0),)))), ("stuck", ["a"]))
        self.assertEqual(fault(net, (("g",), ((("a", 1),), (("a", 2),), (("g", 0),)))), ("stuck", ["a", "a"]))

    def test_no_steps_and_no_out_is_no_fault(self):
        net = (("a",), (("g", ("same", "a")),), (False, False))
        self.assertIsNone(fault(net, (("g",), ((),))))
        self.assertIsNone(fault(net, (("g",), ((("a", 1),), (("g", 2),), ()))))
        self.assertIsNone(fault(net, ((), ((),))))

    def test_an_out_that_the_net_may_still_come_to_is_not_stuck(self):
        net = (("a",), (("g", ("same", "a")),), (False, False))
        self.assertIsNone(fault(net, (("g",), ((("a", 1), ("g", 0)), (("g", 2),), ()))))
        unseen = ((), (("u", ("not", "g")), ("g", ("same", "u"))), (False, False))
        self.assertIsNone(fault(unseen, (("g",), ((("g", 0),),))))

    def test_unasked_at_once(self):
        net = ((), (("g", ("not", "g")),), (False,))
        self.assertEqual(fault(net, (("g",), ((),))), ("unasked", ["g"]))
        self.assertIsNone(fault(net, ((), ((),))))
        self.assertEqual(fault(net, (("g",), ((("g", 1),), ()))), ("unasked", ["g", "g"]))

    def test_taken_by_an_input(self):
        net = (("a",), (("g", ("same", "a")),), (False, False))
        self.assertEqual(fault(net, ((), ((("a", 0),),))), ("taken", ["a", "a"], "g"))
        self.assertEqual(fault(net, (("g",), ((("a", 0), ("g", 0)),))), ("taken", ["a", "a"], "g"))
        self.assertIsNone(fault(net, (("g",), ((("a", 1),), (("g", 0),)))))

    def test_taken_by_a_gate(self):
        net = ((), CROSS, (False, False))
        self.assertEqual(fault(net, ((), ((),))), ("taken", ["x"], "y"))
        self.assertEqual(fault(((), CROSS[::-1], (True, True)), ((), ((),))), ("taken", ["y"], "x"))
        self.assertIsNone(fault(((), CROSS, (True, False)), ((), ((),))))

    def test_the_wire_itself_is_not_taken(self):
        net = ((), (("g", ("or", ("g", "h"))), ("h", ("same", "h"))), (False, True))
        self.assertIsNone(fault(net, ((), ((),))))
        self.assertIsNone(fault(net, (("g",), ((("g", 1),), ()))))

    def test_a_wait_taken_and_given_again_later_is_a_fault_all_the_same(self):
        net = (("a", "b"), (("g", ("and", ("a", "b"))),), (True, True, False))
        self.assertEqual(fault(net, ((), ((("b", 1),), (("b", 0),)))), ("taken", ["b"], "g"))

    def test_meeting_points_and_chains(self):
        for net, talk in meetings_with_more()[1:] + chains():
            self.assertIsNone(fault(net, talk))
        self.assertEqual(fault(*meetings_with_more()[0]), ("taken", list("abcabc"), "d"))
        self.assertIsNone(fault(*ring((True, False, False))))
        self.assertIsNone(fault(*ring((False, False, False, False))))
        self.assertEqual(fault(*ring((False, False, False), ("h",))), ("stuck", []))


class TheFirstFault(unittest.TestCase):
    def test_unasked_ahead_of_taken_at_one_step(self):
        net = ((), CROSS, (False, False))
        self.assertEqual(fault(net, (("x",), ((),))), ("unasked", ["x"]))
        self.assertEqual(fault(net, (("y", "x"), ((("y", 0),),))), ("unasked", ["x"]))

    def test_an_earlier_step_ahead_of_unasked(self):
        net = ((), CROSS, (False, False))
        self.assertEqual(fault(net, (("y",), ((),))), ("taken", ["x"], "y"))
        self.assertEqual(fault(net, (("y", "x"), ((("x", 0),),))), ("taken", ["x"], "y"))

    def test_the_first_gate_by_the_order_of_the_wires(self):
        gates = (("z", ("same", "a")), ("b", ("same", "a")), ("m", ("not", "m")))
        net = (("a",), gates, (True, False, False, False))
        self.assertEqual(fault(net, ((), ((("a", 0),),))), ("taken", ["a"], "z"))
        turned = (("a",), gates[::-1], (True, False, False, False))
        self.assertEqual(fault(turned, ((), ((("a", 0),),))), ("taken", ["a"], "b"))

    def test_the_first_step_by_the_order_of_the_wires(self):
        gates = (("p", ("or", ("z", "b"))), ("q", ("and", ("z", "b"))))
        net = (("z", "b"), gates, (True, True, True, False))
        self.assertEqual(fault(net, ((), ((("b", 0), ("z", 0)),))), ("taken", ["z"], "q"))
        self.assertEqual(fault(net, ((), ((("b", 0),),))), ("taken", ["b"], "q"))

    def test_the_first_stand(self):
        gates = (("g", ("same", "a")), ("h", ("same", "b")))
        net = (("a", "b"), gates, (False,) * 4)
        late = ((("a", 1),), (("b", 2),), (("b", 2),))
        self.assertEqual(fault(net, ((), late)), ("taken", ["a", "b", "b"], "h"))
        self.assertEqual(fault(net, (("g",), late)), ("unasked", ["a", "g"]))
        self.assertEqual(fault(net, (("g",), ((("a", 1),), (("b", 2), ("g", 1)), ()))), ("unasked", ["a", "b", "g"]))

    def test_stuck_at_one_stand_and_unasked_at_another(self):
        gates = (("g", ("same", "g")), ("h", ("same", "b")))
        talk = (("g", "h"), ((("b", 2), ("a", 1)), (("g", 0),), ()))
        self.assertEqual(fault((("a", "b"), gates, (False,) * 4), talk), ("stuck", ["a"]))
        self.assertEqual(fault((("b", "a"), gates, (False,) * 4), talk), ("unasked", ["b", "h"]))

    def test_the_run_that_first_came_and_not_another(self):
        net = (("b", "a"), (("g", ("same", "g")),), (False,) * 3)
        talk = (("g",), ((("a", 1), ("b", 2)), (("b", 3),), (("a", 3),), (("g", 0),)))
        self.assertEqual(fault(net, talk), ("stuck", ["b", "a"]))
        short = (("g",), ((("a", 3), ("b", 2)), (), (("a", 3),), (("g", 0),)))
        self.assertEqual(fault(net, short), ("stuck", ["a"]))


class FaultsOfAllPairs(unittest.TestCase):
    def test_the_first_fault_is_told(self):
        for net, talk in all_pairs() + great_pairs():
            self.assertEqual(fault(net, talk), model_fault(net, talk), (net, talk))

    def test_the_samples_have_each_kind_and_several_and_none(self):
        found = [all_faults(net, talk) for net, talk in all_pairs()]
        for word in ("stuck", "unasked", "taken"):
            self.assertGreater(sum(1 for faults in found if faults and faults[0][0] == word), 40, word)
            self.assertGreater(sum(1 for faults in found if len(faults) > 1 and faults[0][0] == word), 1, word)
        self.assertGreater(sum(1 for faults in found if not faults), 200)
        self.assertGreater(sum(1 for faults in found if len({one[0] for one in faults}) > 1), 40)

    def test_several_faults_at_one_stand_and_at_one_step(self):
        stands_of_several = steps_of_several = 0
        for net, talk in all_pairs():
            found = [faults_at(net, talk, one, run) for one, run in first_runs(net, talk).items()]
            places = [key[0] for key, told in next(filter(None, found), [])]
            stands_of_several += len(set(places)) > 1
            steps_of_several += places.count(min(places, default=0)) > 1
        self.assertGreater(stands_of_several, 40)
        self.assertGreater(steps_of_several, 20)

    def test_the_form_of_a_fault(self):
        for net, talk in all_pairs():
            told = fault(net, talk)
            if told is not None:
                self.assertIsInstance(told, tuple)
                self.assertIsInstance(told[1], list)
                self.assertEqual(len(told), 3 if told[0] == "taken" else 2)
                ahead = told[1] if told[0] == "stuck" else told[1][:-1]
                self.assertIsNotNone(model_behind(net, talk, ahead))
                if told[0] != "stuck":
                    self.assertIn(told[1][-1], model_steps(net, talk, model_behind(net, talk, ahead)))

    def test_rings(self):
        found = [fault(net, talk) for net, talk in rings()]
        self.assertGreater(sum(1 for told in found if told is None), 20)
        self.assertGreater(sum(1 for told in found if told is not None), 20)


class Refusals(unittest.TestCase):
    def test_what_is_no_net(self):
        for place, thing in enumerate(wrong_nets()):
            for talk in (GOOD_TALK, None):
                self.assertIsInstance(refusal(fault, thing, talk), NoNet, place)

    def test_what_is_no_talk(self):
        for place, thing in enumerate(wrong_talks()):
            self.assertIsInstance(refusal(fault, TALK_NET, thing), NoTalk, place)
            self.assertIsInstance(refusal(fault, list(TALK_NET), thing), NoNet, place)
        self.assertIsInstance(refusal(fault, TALK_NET, Odd()), NoTalk)


class NothingChangedOrKept(unittest.TestCase):
    def test_runs_are_new_ones_each_time(self):
        for net, talk in all_pairs():
            told = fault(net, talk)
            if told is not None:
                kept = copy.deepcopy(told)
                told[1].append("other")
                self.assertEqual(fault(net, talk), kept)
                self.assertIsNot(fault(net, talk)[1], fault(net, talk)[1])

    def test_equal_things_give_equal_answers(self):
        for net, talk in all_pairs()[::25]:
            other_net, other_talk = copy.deepcopy([[net], [talk]])
            self.assertEqual(fault(other_net[0], other_talk[0]), fault(net, talk))

    def test_what_is_handed_in_is_not_kept(self):
        for net, talk in (chain(2), meeting(("or", ("a", "b")))):
            before = (sys.getrefcount(net), sys.getrefcount(net[2]), sys.getrefcount(talk))
            fault(net, talk)
            self.assertEqual((sys.getrefcount(net), sys.getrefcount(net[2]), sys.getrefcount(talk)), before)


if __name__ == "__main__":
    unittest.main()
