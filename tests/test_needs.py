import copy
import sys
import unittest
from itertools import product

from anywait.errors import NoNet, NoNumber, NoRun, NoTalk
from anywait.needs import needed
from anywait.waits import timed
from tests.families import (
    Picker, all_pairs, chain, chains, great_pairs, meeting, meetings_with_more, ring, rings, some_run, some_waits,
)
from tests.model import begin, model_steps, step_to, wires_of
from tests.samples import (
    GOOD_TALK, TALK_NET, Odd, odd_things, refusal, wrong_names, wrong_nets, wrong_numbers, wrong_talks,
)
from tests.wait_model import model_needed

BARE = ((), ((),))
STILL = (("a", "b"), (("g", ("same", "g")),), (False,) * 3)
TURNS = ((), (("g", ("not", "g")),), (False,))


def runs_of(net, talk, most):
    """Every run of at most so many changes."""
    level = [((), begin(net))]
    for number in range(most + 1):
        yield from (run for run, stand in level)
        behind = [
            (run + (wire,), step_to(talk, stand, wire, net))
            for run, stand in level for wire in model_steps(net, talk, stand)
        ]
        level = [pair for pair in behind if pair[1] is not None]


def least_in(runs, names):
    """For each wire and number of its changes the least counts of all wires ahead, in these runs alone."""
    found = {}
    for run in runs:
        if run:
            counts = [run[:-1].count(name) for name in names]
            change = (run[-1], run.count(run[-1]))
            found[change] = [min(pair) for pair in zip(counts, found.get(change, counts))]
    return found


class WorkedByHand(unittest.TestCase):
    def test_two_inputs_that_meet(self):
        for wire, number, told in (
            ("a", 1, [0, 0, 0]), ("b", 1, [0, 0, 0]), ("c", 1, [1, 1, 0]), ("a", 2, [1, 1, 1]), ("b", 2, [1, 1, 1]),
            ("c", 2, [2, 2, 1]), ("a", 3, [2, 2, 2]), ("c", 20, [20, 20, 19]), ("b", 20, [19, 19, 19]),
        ):
            self.assertEqual(needed(*meeting(), wire, number), told)

    def test_a_chain_of_two(self):
        for wire, number, told in (
            ("r", 1, [0, 0, 0, 0]), ("g", 1, [1, 0, 0, 0]), ("h", 1, [1, 0, 1, 0]), ("k", 1, [1, 0, 1, 1]),
            ("r", 2, [1, 0, 1, 0]), ("g", 2, [2, 0, 1, 1]), ("h", 2, [2, 1, 2, 1]), ("r", 3, [2, 0, 2, 1]),
            ("g", 3, [3, 1, 2, 2]), ("r", 20, [19, 17, 19, 18]), ("k", 20, [20, 19, 20, 20]),
        ):
            self.assertEqual(needed(*chain(2), wire, number), told, (wire, number))

    def test_a_ring_of_three(self):
        net, talk = ring((True, False, False))
        for wire, number, told in (
            ("h", 1, [0, 0, 0]), ("g", 1, [0, 1, 0]), ("m", 1, [1, 1, 0]), ("h", 2, [1, 1, 1]), ("g", 3, [2, 3, 2]),
        ):
            self.assertEqual(needed(net, talk, wire, number), told)

    def test_each_wire_at_the_least_by_itself(self):
        net, talk = meeting(("or", ("a", "b")))
        free = ((), ((("a", 1), ("b", 2)), (), ()))
        self.assertEqual(needed(net, free, "c", 1), [0, 0, 0])
        self.assertIsNone(needed(net, free, "c", 2))
        self.assertEqual(needed(net, talk, "c", 1), [1, 1, 0])

    def test_a_way_round_with_more_of_one_and_fewer_of_another(self):
        talk = (("g",), ((("a", 1), ("b", 2)), (("a", 3),), (("b", 4),), (("a", 5),), (("b", 5),), (("g", 6),), ()))
        net = (("a", "b"), (("g", ("or", ("a", "b"))),), (False,) * 3)
        self.assertEqual(needed(net, talk, "g", 1), [0, 0, 0])
        both = (net[0], net[1], (True, True, False))
        self.assertEqual(needed(both, ((), talk[1][:2] + ((("b", 4),), (), ())), "a", 2), [1, 0, 0])
        other = ((), ((("a", 1), ("b", 2)), (("a", 2),), (("b", 0), ("a", 3)), ()))
        self.assertEqual(needed(STILL, other, "b", 1), [0, 0, 0])
        self.assertEqual(needed(STILL, other, "b", 2), [0, 1, 0])
        self.assertEqual(needed(STILL, other, "a", 1), [0, 0, 0])
        self.assertEqual(needed(STILL, other, "a", 3), [2, 0, 0])
        self.assertEqual(needed(STILL, other, "a", 4), [3, 1, 0])

    def test_its_own_changes_ahead(self):
        for number in range(1, 21):
            self.assertEqual(needed(TURNS, BARE, "g", number), [number - 1])

    def test_none_where_no_run_has_so_many(self):
        self.assertIsNone(needed(STILL, BARE, "a", 1))
        self.assertIsNone(needed(STILL, BARE, "g", 1))
        talk = ((), ((("a", 1),), (("a", 2), ("b", 0)), ()))
        self.assertEqual(needed(STILL, talk, "b", 1), [1, 0, 0])
        self.assertEqual(needed(STILL, talk, "a", 2), [1, 0, 0])
        self.assertEqual(needed(STILL, talk, "a", 3), [2, 1, 0])
        ends = ((), ((("a", 1),), (("a", 2),), ()))
        self.assertEqual(needed(STILL, ends, "a", 2), [1, 0, 0])
        self.assertIsNone(needed(STILL, ends, "a", 3))
        self.assertIsNone(needed(*ring((False,) * 3), "g", 1))

    def test_an_unasked_step_is_none_of_a_run(self):
        self.assertIsNone(needed(TURNS, (("g",), ((),)), "g", 1))
        self.assertEqual(needed(TURNS, (("g",), ((("g", 1),), ())), "g", 1), [0])
        self.assertIsNone(needed(TURNS, (("g",), ((("g", 1),), ())), "g", 2))
        net = (("a",), TURNS[1], (False, False))
        self.assertEqual(needed(net, (("g",), ((("a", 1),), (("g", 0),))), "g", 1), [1, 0])
        self.assertEqual(needed(net, (("g",), ((("a", 1),), (("g", 0),))), "g", 2), [2, 1])


class AllPairs(unittest.TestCase):
    def test_the_first_to_third_change(self):
        pick = Picker(41)
        found = []
        for net, talk in all_pairs():
            for number in (1, 2, 3):
                wire = pick.one_of(wires_of(net))
                told = needed(net, talk, wire, number)
                self.assertEqual(told, model_needed(net, talk, wire, number), (net, talk, wire, number))
                found.append(told)
        self.assertGreater(found.count(None), 500)
        self.assertGreater(sum(1 for told in found if told and max(told) > 1), 400)

    def test_each_wire_of_those_that_are_safe_by_their_form(self):
        for net, talk in [meeting(), *meetings_with_more(), *chains(), *rings()[::5]]:
            for wire, number in product(wires_of(net), (1, 2, 3, 7)):
                self.assertEqual(needed(net, talk, wire, number), model_needed(net, talk, wire, number))

    def test_late_changes(self):
        pick = Picker(42)
        for net, talk in all_pairs()[::40]:
            wire = pick.one_of(wires_of(net))
            for number in (19, 20):
                self.assertEqual(needed(net, talk, wire, number), model_needed(net, talk, wire, number))

    def test_great_ones(self):
        for net, talk in great_pairs():
            for wire in ("a", "b", "p"):
                self.assertEqual(needed(net, talk, wire, 3), model_needed(net, talk, wire, 3))

    def test_in_all_short_runs_so_many_are_ahead(self):
        as_few = 0
        for net, talk in all_pairs()[::5]:
            names = wires_of(net)
            for (wire, number), counts in least_in(runs_of(net, talk, 5), names).items():
                told = needed(net, talk, wire, number)
                self.assertIsNotNone(told, (net, talk, wire, number))
                self.assertTrue(all(one <= other for one, other in zip(told, counts)), (net, talk, wire, number))
                as_few += told == counts
        self.assertGreater(as_few, 1000)

    def test_in_longer_runs_so_many_are_ahead(self):
        pick = Picker(43)
        for net, talk in all_pairs()[::3]:
            run = some_run(net, talk, pick, 25)
            if run:
                counts = [run[:-1].count(name) for name in wires_of(net)]
                told = needed(net, talk, run[-1], min(20, run.count(run[-1])))
                self.assertTrue(all(one <= other for one, other in zip(told, counts)))

    def test_along_any_waits_so_many_are_ahead(self):
        pick = Picker(44)
        for net, talk in all_pairs()[::2]:
            changes, word = timed(net, talk, some_waits(net, pick, 5), 14)
            run = [wire for time, wire in changes]
            run = run[:-1] if word == "unasked" else run
            for place in range(0, len(run), 3):
                number = run[:place + 1].count(run[place])
                told = needed(net, talk, run[place], number)
                ahead = [run[:place].count(name) for name in wires_of(net)]
                self.assertTrue(all(one <= other for one, other in zip(told, ahead)), (net, talk, run, place))
                self.assertEqual(told[wires_of(net).index(run[place])], number - 1)


class Refusals(unittest.TestCase):
    def test_what_is_no_net(self):
        for place, thing in enumerate(wrong_nets()):
            self.assertIsInstance(refusal(needed, thing, GOOD_TALK, "a", 1), NoNet, place)
            self.assertIsInstance(refusal(needed, thing, None, None, None), NoNet, place)

    def test_what_is_no_talk(self):
        for place, thing in enumerate(wrong_talks()):
            self.assertIsInstance(refusal(needed, TALK_NET, thing, "a", 1), NoTalk, place)
            self.assertIsInstance(refusal(needed, TALK_NET, thing, "x", True), NoTalk, place)
            self.assertIsInstance(refusal(needed, list(TALK_NET), thing, "a", 1), NoNet, place)

    def test_what_is_no_wire(self):
        for place, thing in enumerate(odd_things() + wrong_names() + ["x", "ab", 0, True, ("a",), ["a"], ("a", "b")]):
            self.assertIsInstance(refusal(needed, TALK_NET, GOOD_TALK, thing, 1), NoRun, place)
            self.assertIsInstance(refusal(needed, TALK_NET, GOOD_TALK, thing, 0), NoRun, place)
            self.assertIsInstance(refusal(needed, TALK_NET, (), thing, 1), NoTalk, place)
            self.assertIsInstance(refusal(needed, (), GOOD_TALK, thing, 1), NoNet, place)

    def test_what_is_no_number(self):
        for place, thing in enumerate(wrong_numbers(1, 20)):
            for wire in ("a", "c", "e"):
                self.assertIsInstance(refusal(needed, TALK_NET, GOOD_TALK, wire, thing), NoNumber, place)
            self.assertIsInstance(refusal(needed, TALK_NET, GOOD_TALK, "x", thing), NoRun, place)
            self.assertIsInstance(refusal(needed, TALK_NET, [], "a", thing), NoTalk, place)
            self.assertIsInstance(refusal(needed, [], GOOD_TALK, "a", thing), NoNet, place)
        self.assertIsInstance(refusal(needed, TALK_NET, GOOD_TALK, "a", Odd()), NoNumber)

    def test_the_edges_are_let_by(self):
        for wire, number in product(wires_of(TALK_NET), (1, 20)):
            self.assertIsNone(refusal(needed, TALK_NET, GOOD_TALK, wire, number))


class NothingChangedOrKept(unittest.TestCase):
    def test_lists_are_new_ones_each_time(self):
        for net, talk in all_pairs()[::9]:
            told = needed(net, talk, wires_of(net)[-1], 1)
            if told is not None:
                kept = copy.deepcopy(told)
                told.append("other")
                self.assertEqual(needed(net, talk, wires_of(net)[-1], 1), kept)

    def test_equal_things_give_equal_answers(self):
        for net, talk in all_pairs()[::25]:
            wire = wires_of(net)[-1]
            other = copy.deepcopy([[net], [talk]])
            self.assertEqual(needed(other[0][0], other[1][0], "".join(list(wire)), 2), needed(net, talk, wire, 2))

    def test_what_is_handed_in_is_not_kept(self):
        net, talk = chain(2)
        before = [sys.getrefcount(thing) for thing in (net, net[2], talk)]
        needed(net, talk, "h", 3)
        self.assertEqual([sys.getrefcount(thing) for thing in (net, net[2], talk)], before)


if __name__ == "__main__":
    unittest.main()
