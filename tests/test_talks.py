import copy
import sys
import unittest
from itertools import permutations

from anywait.errors import NoNet, NoTalk
from anywait.talks import checked_talk, is_steady
from tests.samples import (
    GOOD_TALK, STEADY, TALK_NET, UNSTEADY, Odd, full_net, refusal, talks, wrong_nets, wrong_talks,
)


class TalksThatAreTalks(unittest.TestCase):
    def test_checked_talk_tells_the_talk(self):
        for talk in talks():
            self.assertEqual(checked_talk(TALK_NET, talk), talk)

    def test_outs_may_stand_in_any_order(self):
        for outs in permutations(("c", "d", "e")):
            self.assertEqual(checked_talk(TALK_NET, (outs, ((),))), (outs, ((),)))

    def test_all_gates_of_the_greatest_net_as_outs(self):
        net = full_net()
        names = net[0] + tuple(name for name, kind in net[1])
        talk = (names[3:], (tuple((name, 11) for name in names),) * 12)
        self.assertEqual(checked_talk(net, talk), talk)

    def test_a_net_without_inputs(self):
        net = ((), (("c", ("not", "c")),), (False,))
        for talk in (((), ((),)), (("c",), ((("c", 0),),))):
            self.assertEqual(checked_talk(net, talk), talk)
        self.assertIsInstance(refusal(checked_talk, net, ((), ((("c", 0),),))), NoTalk)

    def test_equal_things_give_equal_answers(self):
        for talk in talks():
            net, other = copy.deepcopy([TALK_NET, talk])
            self.assertEqual(checked_talk(net, other), checked_talk(TALK_NET, talk))
            self.assertIs(is_steady(net, other), is_steady(TALK_NET, talk))


class TalksThatAreNone(unittest.TestCase):
    def test_each_is_refused_with_no_talk(self):
        for place, thing in enumerate(wrong_talks()):
            for call in (checked_talk, is_steady):
                error = refusal(call, TALK_NET, thing)
                self.assertIsInstance(error, NoTalk, (place, call))
                self.assertIsInstance(error, ValueError)
                self.assertNotIsInstance(error, NoNet)

    def test_a_talk_for_one_net_may_be_none_for_another(self):
        net = (("a",), (("c", ("not", "a")), ("d", ("same", "c"))), (False,) * 3)
        self.assertIsInstance(refusal(checked_talk, net, GOOD_TALK), NoTalk)
        self.assertIsNone(refusal(checked_talk, TALK_NET, GOOD_TALK))

    def test_a_net_that_is_none_is_refused_ahead_of_it(self):
        some_talks = [GOOD_TALK, (), None, ((), ((("a", True),),)), Odd()]
        for place, thing in enumerate(wrong_nets()):
            for talk in some_talks:
                for call in (checked_talk, is_steady):
                    self.assertIsInstance(refusal(call, thing, talk), NoNet, place)

    def test_a_net_that_is_none_with_each_wrong_talk(self):
        for place, talk in enumerate(wrong_talks()):
            for call in (checked_talk, is_steady):
                self.assertIsInstance(refusal(call, list(TALK_NET), talk), NoNet, place)


class SteadyTalks(unittest.TestCase):
    def test_steady(self):
        for place, talk in enumerate(STEADY):
            self.assertIs(is_steady(TALK_NET, talk), True, place)

    def test_unsteady(self):
        for place, talk in enumerate(UNSTEADY):
            self.assertIs(is_steady(TALK_NET, talk), False, place)

    def test_the_order_of_moves_does_not_matter(self):
        for answer, some_talks in ((True, STEADY), (False, UNSTEADY)):
            for outs, states in some_talks:
                turned = (outs, tuple(state[::-1] for state in states))
                self.assertIs(is_steady(TALK_NET, turned), answer, turned)

    def test_each_square_of_a_cube_broken_in_turn(self):
        cube = STEADY[-1]
        for number, state in enumerate(cube[1]):
            for place, (wire, behind) in enumerate(state):
                without = state[:place] + state[place + 1:]
                for spoiled in (without, without + ((wire, number),)):
                    talk = (cube[0], cube[1][:number] + (spoiled,) + cube[1][number + 1:])
                    # A move gone from the corner that no move leads to leaves squares that still close.
                    self.assertIs(is_steady(TALK_NET, talk), number == 0 and spoiled == without, talk)

    def test_states_that_never_come_count(self):
        pair = (("a", 2), ("b", 3))
        self.assertIs(is_steady(TALK_NET, ((), ((), pair, (("b", 0),), (("a", 0),)))), True)
        self.assertIs(is_steady(TALK_NET, ((), ((), pair, (("b", 0),), (("a", 1),)))), False)


class NothingChangedOrKept(unittest.TestCase):
    def test_what_is_handed_in_is_not_changed(self):
        wrong = (["c"], [[["a", 0]]])
        before = copy.deepcopy(wrong)
        self.assertIsInstance(refusal(checked_talk, TALK_NET, wrong), NoTalk)
        self.assertEqual(wrong, before)

    def test_what_is_handed_in_is_not_kept(self):
        net = tuple([tuple(["a", "b"]), tuple([("c", ("not", "a"))]), tuple([True, False, True])])
        talk = tuple([tuple(["c"]), tuple([tuple([("a", 0), ("b", 0)])])])
        before = (sys.getrefcount(net), sys.getrefcount(talk), sys.getrefcount(talk[1][0]))
        checked_talk(net, talk)
        is_steady(net, talk)
        self.assertEqual((sys.getrefcount(net), sys.getrefcount(talk), sys.getrefcount(talk[1][0])), before)


if __name__ == "__main__":
    unittest.main()
