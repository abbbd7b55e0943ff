import copy
import sys
import unittest
from functools import lru_cache

from anywait.errors import NoNet, NoTalk, TooBig
from anywait.faults import fault, is_paper
from anywait.mending import held, mended
from anywait.stands import stands
from tests.families import (
    GATES, Picker, all_pairs, chain, chains, great_pairs, meeting, mixed_pair, ring, rings, with_gate,
)
from tests.mend_model import depth_of, does, in_order, model_mended, model_points, put_on, tuples_of
from tests.model import model_fault
from tests.samples import GOOD_TALK, TALK_NET, Odd, odd_things, refusal, wrong_nets, wrong_talks

FREE = ((), ((("a", 0),),))


def followers(number, deep=0):
    """So many gates that are as an input is, which may change at any time; the first is held so deep already."""
    kinds = [("same", "a")] * number
    for again in range(deep):
        kinds[0] = ("held", kinds[0], "a", True)
    return (("a",), tuple(zip(GATES, kinds)), (False,) * (number + 1))


def mended_pairs():
    """Those that may be mended."""
    return [(net, talk) for net, talk in all_pairs() if len(net[1]) <= 4]


@lru_cache(maxsize=None)
def answers():
    """Each of these, with the meeting points that are told."""
    return [(net, talk, mended(net, talk)) for net, talk in mended_pairs()]


class WorkedByHand(unittest.TestCase):
    def test_what_is_safe_needs_none(self):
        self.assertEqual(mended(*meeting()), ())
        for net, talk in chains():
            self.assertEqual(mended(net, talk), ())
        self.assertEqual(mended(followers(1), (("g",), ((("a", 1),), (("g", 0),)))), ())

    def test_a_gate_that_never_waits_is_never_taken_back(self):
        self.assertEqual(fault(followers(1), FREE), ("taken", ["a", "a"], "g"))
        self.assertEqual(mended(followers(1), FREE), (("g", "a", False),))
        self.assertEqual(mended(followers(2), FREE), (("g", "a", False), ("h", "a", False)))
        self.assertIsNone(mended(followers(3), FREE))
        self.assertIsNone(mended(followers(4), FREE))

    def test_the_first_point_that_does(self):
        net, talk = chain(1)
        bare = with_gate(net, 0, ("same", "r"))
        self.assertEqual(fault(bare, talk), ("unasked", ["r", "g", "r", "g"]))
        self.assertEqual(mended(bare, talk), (("g", "k", False),))
        self.assertEqual(mended(*meeting(("same", "a"))), (("c", "b", True),))
        self.assertEqual(mended(*meeting(("same", "b"))), (("c", "a", True),))

    def test_at_one_gate_there_is_one_point_alone(self):
        net, talk = meeting(("and", ("a", "b")))
        self.assertIsNone(mended(net, talk))
        self.assertIsNone(fault(held(net, (("c", "a", True), ("c", "b", True))), talk))

    def test_what_no_point_makes_safe(self):
        net, talk = meeting(("same", "c"))
        self.assertEqual(fault(net, talk), ("stuck", ["a", "b"]))
        self.assertIsNone(mended(net, talk))
        self.assertIsNone(mended(((), (("g", ("not", "g")),), (False,)), (("g",), ((("g", 1),), (("g", 2),), ()))))

    def test_the_own_wire_may_hold_a_gate(self):
        net = ((), (("g", ("not", "g")),), (False,))
        talk = (("g",), ((),))
        self.assertEqual(fault(net, talk), ("unasked", ["g"]))
        self.assertEqual(mended(net, talk), (("g", "g", True),))

    def test_a_gate_that_is_held_three_deep_has_no_place(self):
        for deep in range(4):
            self.assertEqual(fault(followers(1, deep), FREE), ("taken", ["a", "a"], "g"))
        self.assertEqual(mended(followers(1, 2), FREE), (("g", "a", False),))
        self.assertIsNone(mended(followers(1, 3), FREE))
        self.assertIsNone(mended(followers(2, 3), FREE))

    def test_the_second_one_is_sought_for_the_first_first_one(self):
        net = ((), tuple((name, ("not", name)) for name in GATES[:3]), (False,) * 3)
        talk = (("m", "g"), ((),))
        self.assertEqual(mended(net, talk), (("g", "g", True), ("m", "g", True)))
        self.assertIsNone(mended(net, (("m", "h", "g"), ((),))))


class Families(unittest.TestCase):
    def test_there_is_no_fault_behind_them(self):
        numbers = {}
        for net, talk, points in answers():
            if points is not None:
                made = held(net, points)
                self.assertEqual(made, put_on(net, points))
                self.assertIsNone(fault(made, talk))
                self.assertIsNone(model_fault(made, talk))
                self.assertTrue(is_paper(made, talk, stands(made, talk)))
            number = points if points is None else len(points)
            numbers[number] = numbers.get(number, 0) + 1
        self.assertEqual(sorted(numbers, key=str), [0, 1, 2, None])
        self.assertGreater(min(numbers.values()), 50)

    def test_the_form(self):
        for net, talk, points in answers():
            if points is not None:
                self.assertIsInstance(points, tuple)
                for point in points:
                    self.assertEqual([type(part) for part in (point, *point)], [tuple, str, str, bool])
                    self.assertIn(point, model_points(net))
                order = [in_order(net, point) for point in points]
                self.assertEqual(order, sorted(order))
                self.assertEqual(len({gate for gate, wire, way in points}), len(points))

    def test_none_just_where_it_is_safe(self):
        for net, talk, points in answers():
            self.assertEqual(points == (), model_fault(net, talk) is None)

    def test_all_tuples_tried(self):
        for net, talk, points in answers()[::4]:
            self.assertEqual(points, model_mended(net, talk))

    def test_no_fewer_do_and_none_ahead_does(self):
        for net, talk, points in answers()[2::4]:
            if points is None:
                continue
            for number in range(len(points)):
                self.assertFalse(any(does(net, talk, fewer) for fewer in tuples_of(net, number)))
            alike = tuples_of(net, len(points))
            self.assertFalse(any(does(net, talk, ahead) for ahead in alike[:alike.index(points)]))

    def test_with_three_inputs_and_many_states(self):
        pick = Picker(95)
        numbers = {}
        for again in range(60):
            net, talk = mixed_pair(2, 1 + again % 3, 5 + again % 8, pick)
            more = (("i", "j", "o"), net[1], net[2] + (True,))
            self.assertEqual(mended(more, talk), model_mended(more, talk))
            number = str(mended(more, talk) and len(mended(more, talk)))
            numbers[number] = numbers.get(number, 0) + 1
        self.assertGreaterEqual(len(numbers), 2, numbers)

    def test_gates_that_are_held_already(self):
        pick = Picker(97)
        looked = 0
        for net, talk in mended_pairs()[::19]:
            for number in (1, 2, 3):
                made = put_on(net, (pick.one_of(model_points(net)),) * number)
                if made is not None:
                    self.assertEqual(mended(made, talk), model_mended(made, talk))
                    looked += max(depth_of(kind) for name, kind in made[1]) == 3
        self.assertGreater(looked, 30)


class HowBig(unittest.TestCase):
    def test_five_gates(self):
        for start in ((False,) * 5, (True, False, False, False, False), (True, False) * 2 + (True,)):
            for outs in ((), GATES[:1]):
                self.assertIsInstance(refusal(mended, *ring(start, outs)), TooBig)
        self.assertIsInstance(refusal(mended, followers(5), FREE), TooBig)
        for net, talk in great_pairs():
            self.assertIsInstance(refusal(mended, net, talk), TooBig)

    def test_four_gates(self):
        for net, talk in [pair for pair in rings() if len(pair[0][1]) == 4][::5]:
            self.assertIsNone(refusal(mended, net, talk))


class Refusals(unittest.TestCase):
    def test_what_is_no_net(self):
        for thing in wrong_nets():
            self.assertIsInstance(refusal(mended, thing, GOOD_TALK), NoNet)

    def test_what_is_no_talk(self):
        for thing in wrong_talks():
            self.assertIsInstance(refusal(mended, TALK_NET, thing), NoTalk)

    def test_the_refusal_that_is_named_first(self):
        for thing in odd_things() + [list(TALK_NET), TALK_NET[:2], 1]:
            for talk in (None, Odd(), (), list(GOOD_TALK), ((), ())):
                self.assertIsInstance(refusal(mended, thing, talk), NoNet)
        for talk in (None, Odd(), (), [(), ((),)], ((), ()), ((), ((("a", 1),),)), ((), ((("a", True),),)), ("g", ())):
            self.assertIsInstance(refusal(mended, followers(5), talk), NoTalk)
            self.assertIsInstance(refusal(mended, great_pairs()[0][0], talk), NoTalk)


class NothingChangedOrKept(unittest.TestCase):
    def test_equal_things_give_equal_answers(self):
        for net, talk in mended_pairs()[::9]:
            other, same = copy.deepcopy([net, talk])
            self.assertEqual(mended(other, same), mended(net, talk))
            self.assertEqual([other, same], [net, talk])

    def test_what_is_handed_in_is_not_kept(self):
        things = copy.deepcopy(list(meeting(("same", "a"))))
        before = [sys.getrefcount(thing) for thing in things]
        mended(*things)
        self.assertEqual([sys.getrefcount(thing) for thing in things], before)


if __name__ == "__main__":
    unittest.main()
