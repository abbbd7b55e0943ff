import copy
import sys
import unittest
from itertools import product

from anywait.errors import NoNet, NoTalk, NoWaits
from anywait.waits import pace, timed
from tests.families import Picker, all_pairs, chain, chains, meeting, ring, rings, some_waits
from tests.samples import GOOD_TALK, TALK_NET, Odd, refusal, rows_of, wrong_nets, wrong_talks, wrong_waits
from tests.wait_model import model_pace

BARE = ((), ((),))
FOLLOWS = (("a",), (("g", ("same", "a")),), (False, False))
TURNS = ((), (("g", ("not", "g")),), (False,))


def turning(number):
    """So many gates that change for ever, none of which looks at another."""
    names = ("g", "h", "m")[:number]
    return ((), tuple((name, ("not", name)) for name in names), (False,) * number)


class WorkedByHand(unittest.TestCase):
    def test_two_inputs_that_meet(self):
        self.assertEqual(pace(*meeting(), (3, 5, 2)), (0, 14, [2, 2, 2]))
        self.assertEqual(pace(*meeting(), (1, 1, 1)), (0, 4, [2, 2, 2]))
        self.assertEqual(pace(*meeting(), (99, 98, 99)), (0, 396, [2, 2, 2]))

    def test_a_gate_that_turns(self):
        self.assertEqual(pace(TURNS, BARE, (7,)), (0, 14, [2]))
        self.assertEqual(pace(TURNS, (("g",), ((("g", 1),), (("g", 2),), (("g", 0),))), (7,)), (0, 42, [6]))

    def test_changes_that_do_not_come_again_are_ahead(self):
        talk = (("g",), ((("g", 1),), (("g", 2),), (("g", 1),)))
        self.assertEqual(pace(TURNS, talk, (5,)), (1, 10, [2]))
        talk = (("g",), ((("g", 1),), (("g", 2),), (("g", 3),), (("g", 4),), (("g", 3),)))
        self.assertEqual(pace(TURNS, talk, (5,)), (3, 10, [2]))

    def test_a_stand_comes_again_only_with_what_its_steps_still_wait(self):
        self.assertEqual(pace(turning(2), BARE, (2, 3)), (0, 12, [6, 4]))
        self.assertEqual(pace(turning(2), BARE, (1, 99)), (0, 198, [198, 2]))
        self.assertEqual(pace(*chain(2), (1, 1, 1, 1)), (2, 4, [2, 2, 2, 2]))

    def test_a_gate_that_never_comes_to_change(self):
        talk = ((), ((("a", 0),),))
        self.assertEqual(pace(FOLLOWS, talk, (2, 3)), (0, 4, [2, 0]))
        self.assertEqual(pace(FOLLOWS, talk, (2, 2)), (0, 4, [2, 0]))
        self.assertEqual(pace(FOLLOWS, talk, (3, 2)), (1, 6, [2, 2]))

    def test_none_where_it_ends(self):
        self.assertIsNone(pace(*ring((True,) * 3), (1, 1, 1)))
        self.assertIsNone(pace(FOLLOWS, (("g",), ((("a", 1),), (("g", 2),), ())), (3, 4)))
        self.assertIsNone(pace(*meeting(("table", ("a", "b"), ())), (2, 3, 1)))

    def test_none_where_it_comes_to_what_is_unasked(self):
        self.assertIsNone(pace(TURNS, (("g",), ((),)), (1,)))
        self.assertIsNone(pace(TURNS, (("g",), ((("g", 1),), ())), (1,)))

    def test_it_hangs_on_the_waits_whether_it_comes_to_what_is_unasked(self):
        net, talk = meeting(("or", ("a", "b")))
        self.assertIsNone(pace(net, talk, (2, 4, 1)))
        self.assertEqual(pace(net, talk, (2, 3, 1)), (0, 7, [2, 2, 2]))

    def test_what_comes_again_late(self):
        self.assertEqual(pace(turning(3), BARE, (13, 17, 23)), (0, 10166, [782, 598, 442]))


class AllPairs(unittest.TestCase):
    def test_waits_of_one_to_four(self):
        pick = Picker(31)
        found = []
        for net, talk in all_pairs():
            waits = some_waits(net, pick, 4)
            expected = model_pace(net, talk, waits)
            if expected != "late":
                self.assertEqual(pace(net, talk, waits), expected, (net, talk, waits))
                found.append(expected)
        self.assertGreater(len(found), len(all_pairs()) - 10)
        self.assertGreater(found.count(None), 200)
        self.assertGreater(sum(1 for told in found if told and told[0] == 0), 200)
        self.assertGreater(sum(1 for told in found if told and told[0] > 0), 100)

    def test_greater_waits(self):
        pick = Picker(32)
        for net, talk in all_pairs()[::15] + chains():
            waits = some_waits(net, pick, 30)
            expected = model_pace(net, talk, waits, 300)
            if expected != "late":
                self.assertEqual(pace(net, talk, waits), expected, (net, talk, waits))

    def test_the_changes_of_a_pace_come_again_and_again(self):
        pick = Picker(33)
        looked = 0
        for net, talk in all_pairs():
            waits = some_waits(net, pick, 4)
            told = pace(net, talk, waits)
            changes, word = timed(net, talk, waits, 200)
            if told is None:
                if len(changes) < 200:
                    self.assertNotEqual(word, "on")
                continue
            self.assertEqual(word, "on")
            head, time, counts = told
            number = sum(counts)
            looked += head + number < 200
            for one, other in zip(changes[head:], changes[head + number:]):
                self.assertEqual((one[0] + time, one[1]), other)
        self.assertGreater(looked, 500)

    def test_the_form_of_a_pace(self):
        for net, talk in all_pairs()[::5]:
            told = pace(net, talk, (2,) * len(net[2]))
            if told is not None:
                self.assertIsInstance(told, tuple)
                self.assertEqual([type(part) for part in told], [int, int, list])
                self.assertEqual(len(told[2]), len(net[2]))
                self.assertGreater(told[1], 0)
                for count in told[2]:
                    self.assertEqual(count % 2, 0)


class Rings(unittest.TestCase):
    def check(self, start, waits):
        told = pace(*ring(start), waits)
        turns = [one != other for one, other in zip(start, start[1:] + start[:1])]
        if all(turns) or not any(turns):
            self.assertIsNone(told)
            self.assertEqual(timed(*ring(start), waits, 40), ([], "end"))
        else:
            self.assertEqual(len(told[2]), len(start))
            self.assertEqual(len(set(told[2])), 1, (start, waits))
            self.assertGreater(told[2][0], 0)
            self.assertEqual(told[2][0] % 2, 0)

    def test_rings_of_three(self):
        for start in rows_of(3):
            for waits in product(range(1, 7), repeat=3):
                self.check(start, waits)

    def test_rings_of_four_and_five(self):
        pick = Picker(34)
        for number in (4, 5):
            for start in rows_of(number):
                for again in range(15):
                    self.check(start, tuple(1 + pick.below(6) for wire in start))
                self.check(start, (1,) * number)
                self.check(start, (6,) * number)

    def test_worked_by_hand(self):
        self.assertEqual(pace(*ring((True, False, False)), (1, 2, 3)), (0, 12, [2, 2, 2]))
        self.assertIsNone(pace(*ring((True, False, True, False)), (1, 2, 3, 4)))
        self.assertIsNone(pace(*ring((False,) * 5), (1,) * 5))

    def test_rings_whose_changes_are_seen(self):
        for net, talk in rings():
            waits = tuple(range(1, len(net[2]) + 1))
            self.assertEqual(pace(net, talk, waits), model_pace(net, talk, waits))


class Refusals(unittest.TestCase):
    def test_what_is_no_net(self):
        for place, thing in enumerate(wrong_nets()):
            self.assertIsInstance(refusal(pace, thing, GOOD_TALK, (1,) * 5), NoNet, place)
            self.assertIsInstance(refusal(pace, thing, None, None), NoNet, place)

    def test_what_is_no_talk(self):
        for place, thing in enumerate(wrong_talks()):
            self.assertIsInstance(refusal(pace, TALK_NET, thing, (1,) * 5), NoTalk, place)
            self.assertIsInstance(refusal(pace, TALK_NET, thing, (True,) * 5), NoTalk, place)
            self.assertIsInstance(refusal(pace, list(TALK_NET), thing, (1,) * 5), NoNet, place)

    def test_what_are_no_waits(self):
        for place, thing in enumerate(wrong_waits(5)):
            self.assertIsInstance(refusal(pace, TALK_NET, GOOD_TALK, thing), NoWaits, place)
            self.assertIsInstance(refusal(pace, TALK_NET, list(GOOD_TALK), thing), NoTalk, place)
            self.assertIsInstance(refusal(pace, None, GOOD_TALK, thing), NoNet, place)
        self.assertIsInstance(refusal(pace, TALK_NET, GOOD_TALK, Odd()), NoWaits)

    def test_the_edges_are_let_by(self):
        for waits in ((1,) * 5, (99,) * 5, (1, 99, 1, 99, 1)):
            self.assertIsNone(refusal(pace, TALK_NET, GOOD_TALK, waits))


class NothingChangedOrKept(unittest.TestCase):
    def test_lists_are_new_ones_each_time(self):
        for net, talk in all_pairs()[::9]:
            waits = (2,) * len(net[2])
            told = pace(net, talk, waits)
            if told is not None:
                kept = copy.deepcopy(told)
                told[2].append("other")
                self.assertEqual(pace(net, talk, waits), kept)

    def test_equal_things_give_equal_answers(self):
        for net, talk in all_pairs()[::25]:
            waits = tuple(value + 2 for value in net[2])
            other = copy.deepcopy([[net], [talk], [waits]])
            self.assertEqual(pace(other[0][0], other[1][0], other[2][0]), pace(net, talk, waits))

    def test_what_is_handed_in_is_not_kept(self):
        net, talk = chain(2)
        waits = tuple([3, 1, 4, 2])
        before = [sys.getrefcount(thing) for thing in (net, net[2], talk, waits)]
        pace(net, talk, waits)
        self.assertEqual([sys.getrefcount(thing) for thing in (net, net[2], talk, waits)], before)


if __name__ == "__main__":
    unittest.main()
