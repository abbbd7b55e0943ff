import copy
import sys
import unittest

from anywait.errors import NoNet, NoRun, NoTalk, WaitError
from anywait.stands import stand_behind
from tests.families import all_pairs, chain, meeting, pairs_with_runs, ring
from tests.model import begin, first_runs, model_behind, model_steps, shown, step_to, wires_of
from tests.samples import GOOD_TALK, TALK_NET, Odd, odd_things, refusal, wrong_names, wrong_nets, wrong_talks


def stand(digits, state):
    return (tuple(digit == "1" for digit in digits), state)


class RunsThatAreRuns(unittest.TestCase):
    def test_two_inputs_that_meet_in_a_both(self):
        net, talk = meeting()
        for run, digits, state in (
            ("", "000", 0), ("a", "100", 1), ("b", "010", 2), ("ab", "110", 3), ("ba", "110", 3), ("bac", "111", 0),
            ("abcb", "101", 2), ("abcba", "001", 3), ("abcbac", "000", 0), ("abcbacbacabc", "000", 0),
        ):
            self.assertEqual(stand_behind(net, talk, list(run)), stand(digits, state), run)

    def test_a_ring(self):
        net, talk = ring((True, False, False))
        for number in range(13):
            run = list("hgmhgm" * 2)[:number]
            digits = ("100", "110", "010", "011", "001", "101")[number % 6]
            self.assertEqual(stand_behind(net, talk, run), stand(digits, 0))

    def test_runs_of_up_to_a_dozen_steps(self):
        lengths = set()
        for net, talk, runs in pairs_with_runs():
            for run in runs:
                lengths.add(len(run))
                for number in range(len(run) + 1):
                    told = stand_behind(net, talk, list(run[:number]))
                    self.assertEqual(told, shown(net, model_behind(net, talk, run[:number])), (net, talk, run))
        self.assertEqual(lengths, set(range(13)))

    def test_the_first_runs_to_all_stands(self):
        for net, talk in all_pairs()[::3]:
            for one, run in first_runs(net, talk).items():
                self.assertEqual(stand_behind(net, talk, run), shown(net, one))

    def test_none_changed(self):
        for net, talk in all_pairs():
            self.assertEqual(stand_behind(net, talk, []), (net[2], 0))

    def test_a_long_run(self):
        net, talk = ring((True, False, False))
        self.assertEqual(stand_behind(net, talk, list("hgm") * 2000), stand("100", 0))


class RunsThatAreNone(unittest.TestCase):
    def refused(self, net, talk, run):
        error = refusal(stand_behind, net, talk, run)
        self.assertIsInstance(error, NoRun, (net, talk))
        self.assertIsInstance(error, WaitError)
        self.assertIsInstance(error, ValueError)

    def test_worked_by_hand(self):
        net, talk = meeting()
        for run in ("c", "aa", "ac", "aba", "abb", "abcc", "abcbc", "abcabcc"):
            self.refused(net, talk, list(run))
        net, talk = meeting(("or", ("a", "b")))
        self.assertEqual(stand_behind(net, talk, ["a", "b", "c"]), stand("111", 0))
        for run in (["a", "c"], ["b", "c"], ["a", "c", "b"]):
            self.refused(net, talk, run)

    def test_a_wire_that_is_no_step_put_in_or_behind(self):
        spoilt = 0
        for net, talk, runs in pairs_with_runs():
            run = list(max(runs, key=len))
            for place in range(len(run) + 1):
                free = model_steps(net, talk, model_behind(net, talk, run[:place]))
                for wire in wires_of(net):
                    if wire not in free:
                        self.refused(net, talk, run[:place] + [wire] + run[place:])
                        self.refused(net, talk, run[:place] + [wire])
                        spoilt += 1
        self.assertGreater(spoilt, 5000)

    def test_an_unasked_step_at_the_end(self):
        spoilt = 0
        for net, talk in all_pairs():
            for one, run in first_runs(net, talk).items():
                for wire in model_steps(net, talk, one):
                    if step_to(talk, one, wire, net) is None:
                        self.refused(net, talk, run + [wire])
                        self.refused(net, talk, run + [wire, wire])
                        spoilt += 1
        self.assertGreater(spoilt, 300)

    def test_words_that_are_no_wires(self):
        for net, talk, runs in pairs_with_runs()[::10]:
            run = list(runs[0])
            for word in ("w", "", "gg", "input", " g", "G", net, talk, 0, True, None, ["g"], ("g",)):
                for place in (0, len(run)):
                    self.refused(net, talk, run[:place] + [word] + run[place:])

    def test_things_in_the_place_of_a_list(self):
        for net, talk, runs in pairs_with_runs()[::10]:
            run = runs[0]
            for thing in (run, "".join(run), dict.fromkeys(run), set(run), iter(run), (), "", {}, 0, True, None, net):
                self.refused(net, talk, thing)

    def test_things_of_any_kind(self):
        net, talk = meeting()
        for thing in odd_things() + wrong_names() + [Odd()]:
            for run in ([thing], ["a", thing], ["a", "b", "c", thing, "a"], [[thing]], (thing,), {1: thing}):
                self.refused(net, talk, run)
            if not isinstance(thing, list):
                self.refused(net, talk, thing)

    def test_a_run_of_another_talk(self):
        net, talk = meeting()
        self.refused(net, (("c",), ((("b", 1),), (("a", 2),), (("c", 0),))), ["a"])
        self.assertEqual(stand_behind(net, talk, ["a"]), stand("100", 1))


class Refusals(unittest.TestCase):
    def test_what_is_no_net(self):
        for place, thing in enumerate(wrong_nets()):
            for talk, run in ((GOOD_TALK, []), (None, None)):
                self.assertIsInstance(refusal(stand_behind, thing, talk, run), NoNet, place)

    def test_what_is_no_talk(self):
        for place, thing in enumerate(wrong_talks()):
            for run in ([], ["a"], None, ["x"]):
                self.assertIsInstance(refusal(stand_behind, TALK_NET, thing, run), NoTalk, place)
                self.assertIsInstance(refusal(stand_behind, list(TALK_NET), thing, run), NoNet, place)


class NothingChangedOrKept(unittest.TestCase):
    def test_what_is_handed_in_is_not_changed(self):
        for net, talk, runs in pairs_with_runs()[::20]:
            for run in (list(runs[0]), list(runs[0]) + ["x"], [["a"]]):
                before = copy.deepcopy(run)
                refusal(stand_behind, net, talk, run)
                self.assertEqual(run, before)

    def test_what_is_handed_in_is_not_kept(self):
        net, talk = chain(1)
        run = ["r", "g", "k"]
        before = (sys.getrefcount(net), sys.getrefcount(talk), sys.getrefcount(run))
        told = stand_behind(net, talk, run)
        self.assertEqual((sys.getrefcount(net), sys.getrefcount(talk), sys.getrefcount(run)), before)
        run.clear()
        self.assertEqual(stand_behind(net, talk, ["r", "g", "k"]), told)
        self.assertEqual(stand_behind(net, talk, run), shown(net, begin(net)))


if __name__ == "__main__":
    unittest.main()
