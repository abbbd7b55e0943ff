import copy
import sys
import unittest
from itertools import permutations

from anywait.errors import NoNet, NoRun, NoTalk, WaitError
from anywait.goings import gone_on
from anywait.stands import stand_behind, stands, steps
from anywait.talks import is_steady
from tests.families import Picker, all_pairs, calm_pairs, chain, meeting, pairs_with_runs, ring, some_run
from tests.model import first_runs, model_behind, model_gone_on, model_steps, step_to, wires_of
from tests.samples import GOOD_TALK, TALK_NET, Odd, odd_things, refusal, wrong_nets, wrong_talks


def two_runs(net, talk, seed):
    pick = Picker(seed)
    return some_run(net, talk, pick), some_run(net, talk, pick)


class WorkedByHand(unittest.TestCase):
    def test_two_inputs_that_meet(self):
        net, talk = meeting()
        for one, other, told in (
            ("", "", ""), ("", "abc", "abc"), ("abc", "", ""), ("abc", "abc", ""), ("a", "b", "b"), ("b", "a", "a"),
            ("a", "bac", "bc"), ("b", "abcab", "acab"), ("bac", "abcab", "ab"), ("abcab", "bacb", ""),
            ("abca", "bacb", "b"), ("abca", "bacbacab", "bcab"),
        ):
            self.assertEqual(gone_on(net, talk, list(one), list(other)), list(told), (one, other))

    def test_the_first_changes_of_each_wire_are_left_out(self):
        net, talk = chain(2)
        self.assertEqual(gone_on(net, talk, list("rgr"), list("rghkrghk")), list("hkghk"))
        self.assertEqual(gone_on(net, talk, list("rghk"), list("rgrhkghk")), list("rghk"))
        self.assertEqual(gone_on(net, talk, list("rgrh"), list("rghkrg")), list("kg"))

    def test_what_is_told_need_not_be_a_run_itself(self):
        net, talk = meeting()
        self.assertEqual(gone_on(net, talk, ["a", "b"], ["b", "a", "c"]), ["c"])
        self.assertIsInstance(refusal(stand_behind, net, talk, ["c"]), NoRun)

    def test_what_can_not_be_gone_on_with(self):
        free = (("a", "b"), (("g", ("same", "g")),), (False,) * 3)
        chosen = ((), ((("a", 1), ("b", 2)), (), ()))
        for one, other in (("a", "b"), ("b", "a")):
            self.assertIsInstance(refusal(gone_on, free, chosen, [one], [other]), NoRun)
            self.assertEqual(gone_on(free, chosen, [one], [one]), [])
            self.assertEqual(gone_on(free, chosen, [one], []), [])
        crossed = ((), (("x", ("not", "y")), ("y", ("not", "x"))), (False, False))
        self.assertIsInstance(refusal(gone_on, crossed, ((), ((),)), ["x"], ["y"]), NoRun)

    def test_an_unasked_step_is_not_gone_on_with(self):
        net = (("a",), (("g", ("not", "g")),), (False, False))
        talk = (("g",), ((("g", 1), ("a", 2)), (("a", 2),), ()))
        self.assertEqual(stand_behind(net, talk, ["g"]), ((False, True), 1))
        self.assertIsInstance(refusal(gone_on, net, talk, ["a"], ["g"]), NoRun)
        self.assertEqual(gone_on(net, talk, ["g"], ["a"]), ["a"])

    def test_unlike_stands_where_the_talk_is_not_steady(self):
        free = (("a", "b"), (("g", ("same", "g")),), (False,) * 3)
        talk = ((), ((("a", 1), ("b", 2)), (("b", 1),), (("a", 2),)))
        self.assertIs(is_steady(free, talk), False)
        self.assertEqual(gone_on(free, talk, ["a"], ["b"]), ["b"])
        self.assertEqual(gone_on(free, talk, ["a", "b"], ["b", "a"]), [])
        self.assertEqual(stand_behind(free, talk, ["a", "b"]), ((True, True, False), 1))
        self.assertEqual(stand_behind(free, talk, ["b", "a"]), ((True, True, False), 2))


class TheSameWhateverTheWaits(unittest.TestCase):
    def test_there_are_enough_of_them(self):
        self.assertGreater(len(calm_pairs()), 200)
        self.assertGreater(sum(1 for net, talk in calm_pairs() if len(stands(net, talk)) > 7), 50)

    def test_two_steps_of_a_stand_can_be_made_in_either_order(self):
        squares = 0
        for net, talk in calm_pairs():
            for one, run in first_runs(net, talk).items():
                for first, second in permutations(steps(net, talk, stand_behind(net, talk, run)), 2):
                    there = stand_behind(net, talk, run + [first, second])
                    self.assertEqual(stand_behind(net, talk, run + [second, first]), there)
                    squares += 1
        self.assertGreater(squares, 1000)

    def test_runs_that_change_each_wire_as_often_come_to_the_same_stand(self):
        met = 0
        for net, talk in calm_pairs()[::2]:
            level = [[]]
            for length in range(6):
                level = [run + [wire] for run in level for wire in steps(net, talk, stand_behind(net, talk, run))][:60]
                found = {}
                for run in level:
                    there = stand_behind(net, talk, run)
                    met += tuple(sorted(run)) in found
                    self.assertEqual(found.setdefault(tuple(sorted(run)), there), there)
        self.assertGreater(met, 500)

    def test_two_runs_are_gone_on_with_by_each_other(self):
        unlike = 0
        for seed, (net, talk) in enumerate(calm_pairs()):
            for again in range(12):
                one, other = two_runs(net, talk, seed * 12 + again)
                behind_one, behind_other = gone_on(net, talk, one, other), gone_on(net, talk, other, one)
                self.assertEqual(behind_one, model_gone_on(net, talk, one, other))
                there = stand_behind(net, talk, one + behind_one)
                self.assertEqual(stand_behind(net, talk, other + behind_other), there)
                self.assertEqual(sorted(one + behind_one), sorted(other + behind_other))
                unlike += behind_one != [] and behind_other != []
        self.assertGreater(unlike, 50)


class WhereTheyAreNot(unittest.TestCase):
    def test_the_wires_are_told_or_no_run(self):
        told = refused = 0
        for seed, (net, talk) in enumerate(all_pairs()):
            for again in range(4):
                one, other = two_runs(net, talk, seed * 4 + again)
                expected = model_gone_on(net, talk, one, other)
                if expected is None:
                    error = refusal(gone_on, net, talk, one, other)
                    self.assertIsInstance(error, NoRun, (net, talk, one, other))
                    self.assertIsInstance(error, WaitError)
                    self.assertIsInstance(error, ValueError)
                    refused += 1
                else:
                    answer = gone_on(net, talk, one, other)
                    self.assertEqual(answer, expected, (net, talk, one, other))
                    self.assertIsInstance(answer, list)
                    told += expected != []
        self.assertGreater(told, 300)
        self.assertGreater(refused, 100)

    def test_each_of_two_steps_behind_the_other(self):
        told = refused = 0
        for net, talk in all_pairs():
            for one, run in list(first_runs(net, talk).items())[:12]:
                free = [wire for wire in model_steps(net, talk, one) if step_to(talk, one, wire, net) is not None]
                for first, second in permutations(free, 2):
                    if model_behind(net, talk, run + [first, second]) is None:
                        error = refusal(gone_on, net, talk, run + [first], run + [second])
                        self.assertIsInstance(error, NoRun)
                        refused += 1
                    else:
                        self.assertEqual(gone_on(net, talk, run + [first], run + [second]), [second])
                        told += 1
        self.assertGreater(told, 500)
        self.assertGreater(refused, 100)

    def test_a_run_and_its_own_beginnings(self):
        for net, talk, runs in pairs_with_runs():
            run = list(runs[0])
            for number in range(len(run) + 1):
                self.assertEqual(gone_on(net, talk, run[:number], run), run[number:])
                self.assertEqual(gone_on(net, talk, run, run[:number]), [])


class Refusals(unittest.TestCase):
    def refused(self, net, talk, one, other):
        error = refusal(gone_on, net, talk, one, other)
        self.assertIsInstance(error, NoRun, (net, talk))
        self.assertIsInstance(error, WaitError)
        self.assertIsInstance(error, ValueError)

    def test_spoilt_runs_in_either_place(self):
        for net, talk, runs in pairs_with_runs()[::4]:
            run = list(runs[0])
            free = model_steps(net, talk, model_behind(net, talk, run))
            no_steps = [wire for wire in wires_of(net) if wire not in free]
            for spoilt in [run + [wire] for wire in no_steps] + [run + ["w"], ["w"] + run, run + [""], run + [None]]:
                for good in ([], run):
                    self.refused(net, talk, spoilt, good)
                    self.refused(net, talk, good, spoilt)
                self.refused(net, talk, spoilt, spoilt)

    def test_what_is_left_out_must_be_a_run_too(self):
        net, talk = meeting()
        for other in (["c"], ["c", "a", "b"], ["a", "c", "b"], ["a", "a"]):
            self.refused(net, talk, ["a", "b", "c"], other)
            self.refused(net, talk, other, ["a", "b", "c"])
        self.assertEqual(gone_on(net, talk, ["a", "b", "c"], ["b", "a"]), [])

    def test_an_unasked_step_at_the_end(self):
        net, talk = meeting(("or", ("a", "b")))
        for spoilt in (["a", "c"], ["b", "c"], ["a", "b", "c", "b", "c"]):
            self.refused(net, talk, spoilt, [])
            self.refused(net, talk, [], spoilt)
            self.refused(net, talk, ["a", "b", "c"], spoilt)
            self.refused(net, talk, spoilt, spoilt)

    def test_things_of_any_kind(self):
        net, talk = meeting()
        for odd in odd_things():
            for wrong in [odd, [odd], ["a", odd], (odd,)][isinstance(odd, list):]:
                self.refused(net, talk, wrong, ["a"])
                self.refused(net, talk, ["b"], wrong)
        for wrong in ("a", ("a",), (), "", {"a": 1}, {}, True, False, 0, 1, iter(["a"]), None, [["a"]], [("a",)]):
            self.refused(net, talk, wrong, ["a"])
            self.refused(net, talk, ["b"], wrong)

    def test_what_is_no_net(self):
        for place, thing in enumerate(wrong_nets()):
            for talk, run in ((GOOD_TALK, []), (None, None)):
                self.assertIsInstance(refusal(gone_on, thing, talk, run, run), NoNet, place)
        self.assertIsInstance(refusal(gone_on, Odd(), Odd(), Odd(), Odd()), NoNet)

    def test_what_is_no_talk(self):
        for place, thing in enumerate(wrong_talks()):
            for one, other in (([], []), (["x"], []), ([], None), (None, ["a"])):
                self.assertIsInstance(refusal(gone_on, TALK_NET, thing, one, other), NoTalk, place)
                self.assertIsInstance(refusal(gone_on, list(TALK_NET), thing, one, other), NoNet, place)
        self.assertIsInstance(refusal(gone_on, TALK_NET, Odd(), Odd(), Odd()), NoTalk)
        self.assertIsInstance(refusal(gone_on, TALK_NET, GOOD_TALK, Odd(), Odd()), NoRun)


class NothingChangedOrKept(unittest.TestCase):
    def test_lists_are_new_ones_each_time(self):
        net, talk = chain(2)
        run = list("rghk")
        for one in ([], list("r"), run):
            first = gone_on(net, talk, one, run)
            kept = list(first)
            self.assertIsNot(first, run)
            first.append("other")
            self.assertEqual(gone_on(net, talk, one, run), kept)
            self.assertIsNot(gone_on(net, talk, one, run), gone_on(net, talk, one, run))

    def test_equal_things_give_equal_answers(self):
        for net, talk, runs in pairs_with_runs()[::25]:
            other_net, other_talk = copy.deepcopy([[net], [talk]])
            run = list(runs[0])
            self.assertEqual(gone_on(other_net[0], other_talk[0], [], list(run)), gone_on(net, talk, [], run))

    def test_what_is_handed_in_is_not_changed_or_kept(self):
        net, talk = ring((True, False, False, False))
        for one, other in ((list("hg"), list("hgm")), ([], ["h"]), (["h", "x"], ["h"]), (["h"], [["h"]])):
            before = copy.deepcopy((one, other))
            things = (net, talk, one, other)
            counts = [sys.getrefcount(thing) for thing in things]
            refusal(gone_on, net, talk, one, other)
            self.assertEqual((one, other), before)
            self.assertEqual([sys.getrefcount(thing) for thing in things], counts)

    def test_one_list_in_both_places(self):
        net, talk = chain(2)
        run = list("rghk")
        self.assertEqual(gone_on(net, talk, run, run), [])
        self.assertEqual(run, list("rghk"))


if __name__ == "__main__":
    unittest.main()
