import copy
import sys
import unittest
from functools import lru_cache

from anywait.errors import NoNet, NoTalk
from anywait.faults import is_paper, paper
from tests.families import all_pairs, chain, great_pairs, meeting, ring
from tests.model import closure, first_runs, model_fault, model_stands, shown, sound_stands
from tests.samples import GOOD_TALK, TALK_NET, Odd, odd_things, refusal, rows_of, wrong_nets, wrong_talks


def stand(digits, state):
    return (tuple(digit == "1" for digit in digits), state)


@lru_cache(maxsize=None)
def safe_pairs():
    return [(net, talk) for net, talk in all_pairs() if model_fault(net, talk) is None]


@lru_cache(maxsize=None)
def unsafe_pairs():
    return [(net, talk) for net, talk in all_pairs() if model_fault(net, talk) is not None]


class PapersTold(unittest.TestCase):
    def test_worked_by_hand(self):
        self.assertEqual(paper(*meeting()), [
            stand("000", 0), stand("100", 1), stand("010", 2), stand("110", 3),
            stand("111", 0), stand("011", 1), stand("101", 2), stand("001", 3),
        ])
        digits = ("100", "110", "010", "011", "001", "101")
        self.assertEqual(paper(*ring((True, False, False))), [stand(one, 0) for one in digits])
        self.assertIsNone(paper(*meeting(("or", ("a", "b")))))
        self.assertIsNone(paper(((), (("g", ("same", "g")),), (True,)), (("g",), ((("g", 0),),))))
        self.assertEqual(paper(((), (("g", ("same", "g")),), (True,)), (("g",), ((),))), [((True,), 0)])

    def test_the_stands_in_order_just_if_safe(self):
        for net, talk in all_pairs() + great_pairs():
            expected = model_stands(net, talk) if model_fault(net, talk) is None else None
            self.assertEqual(paper(net, talk), expected, (net, talk))

    def test_what_is_told_is_a_paper(self):
        for net, talk in safe_pairs():
            self.assertIs(is_paper(net, talk, paper(net, talk)), True)

    def test_there_are_safe_and_unsafe_ones(self):
        self.assertGreater(len(safe_pairs()), 200)
        self.assertGreater(len(unsafe_pairs()), 200)
        self.assertTrue(any(len(model_stands(net, talk)) > 30 for net, talk in safe_pairs()))


class PapersThatArePapers(unittest.TestCase):
    def test_in_any_order(self):
        for net, talk in safe_pairs():
            told = model_stands(net, talk)
            for turned in (told[::-1], told[1:] + told[:1], sorted(told), told[::2] + told[1::2]):
                self.assertIs(is_paper(net, talk, turned), True)

    def test_with_stands_that_do_not_come_but_harm_nothing(self):
        more = 0
        for net, talk in safe_pairs():
            come = list(first_runs(net, talk))
            extra = sorted(sound_stands(net, talk) - set(come), key=lambda one: shown(net, one))
            whole = [shown(net, one) for one in come + extra]
            self.assertIs(is_paper(net, talk, whole), True)
            for one in extra[:3]:
                added = [other for other in closure(net, talk, one) if other not in come]
                for listed in (come + added, added + come):
                    self.assertIs(is_paper(net, talk, [shown(net, other) for other in listed]), True)
                more += 1
        self.assertGreater(more, 100)

    def test_worked_by_hand(self):
        net = (("a",), (("g", ("same", "a")),), (False, False))
        talk = (("g",), ((("a", 1),), (("g", 0),)))
        come = [stand("00", 0), stand("10", 1), stand("11", 0), stand("01", 1)]
        self.assertIs(is_paper(net, talk, come), True)
        self.assertIs(is_paper(net, talk, come + [stand("11", 1)]), False)
        self.assertIs(is_paper(net, talk, come + [stand("01", 0)]), False)
        quiet = (("g",), talk[1] + ((),))
        for digits, answer in (("00", True), ("11", True), ("10", False), ("01", False)):
            self.assertIs(is_paper(net, quiet, come + [stand(digits, 2)]), answer, digits)


class PapersThatAreNone(unittest.TestCase):
    def test_a_stand_left_out(self):
        for net, talk in safe_pairs():
            told = model_stands(net, talk)
            for place in range(len(told)):
                self.assertIs(is_paper(net, talk, told[:place] + told[place + 1:]), False)

    def test_a_stand_told_twice(self):
        for net, talk in safe_pairs():
            told = model_stands(net, talk)
            for place in range(len(told)):
                self.assertIs(is_paper(net, talk, told + [told[place]]), False)
                self.assertIs(is_paper(net, talk, told[:place] + [told[place]] + told[place:]), False)

    def test_a_state_or_a_setting_exchanged(self):
        spoilt = 0
        for net, talk in safe_pairs()[::2]:
            told = model_stands(net, talk)
            for place, (setting, state) in enumerate(told):
                others = [(setting, other) for other in range(len(talk[1])) if other != state]
                others += [(other, state) for other in rows_of(len(setting)) if other != setting][:6]
                for other in others:
                    self.assertIs(is_paper(net, talk, told[:place] + [other] + told[place + 1:]), False)
                    spoilt += 1
        self.assertGreater(spoilt, 5000)

    def test_stands_that_do_not_come_and_do_harm(self):
        spoilt = 0
        for net, talk in safe_pairs():
            told = model_stands(net, talk)
            sound = {shown(net, one) for one in sound_stands(net, talk)}
            for setting in rows_of(len(net[2])):
                for state in range(len(talk[1])):
                    if (setting, state) not in sound:
                        self.assertIs(is_paper(net, talk, told + [(setting, state)]), False)
                        spoilt += 1
        self.assertGreater(spoilt, 1000)

    def test_sound_stands_without_what_they_lead_to(self):
        spoilt = 0
        for net, talk in safe_pairs():
            come = list(first_runs(net, talk))
            for one in sound_stands(net, talk) - set(come):
                if set(closure(net, talk, one)) - set(come) != {one}:
                    self.assertIs(is_paper(net, talk, [shown(net, other) for other in come + [one]]), False)
                    spoilt += 1
        self.assertGreater(spoilt, 100)

    def test_where_net_and_talk_are_not_safe(self):
        for net, talk in unsafe_pairs():
            come = model_stands(net, talk)
            sound = [shown(net, one) for one in sound_stands(net, talk)]
            for thing in (come, come[:1], sound, sound + [one for one in come if one not in sound], [], None):
                self.assertIs(is_paper(net, talk, thing), False)

    def test_each_fault_by_itself(self):
        net = (("a",), (("g", ("same", "a")),), (False, False))
        loose = ((), ((("a", 0),),))
        every = [stand(digits, 0) for digits in ("00", "10", "11", "01")]
        self.assertIs(is_paper(net, loose, every), False)
        lone = ((), (("g", ("same", "g")),), (True,))
        self.assertIs(is_paper(lone, (("g",), ((("g", 0),),)), [((True,), 0)]), False)
        self.assertIs(is_paper(lone, (("g",), ((),)), [((True,), 0)]), True)
        turning = ((), (("g", ("not", "g")),), (False,))
        both = [((False,), 0), ((True,), 0)]
        self.assertIs(is_paper(turning, (("g",), ((),)), both), False)
        self.assertIs(is_paper(turning, (("g",), ((),)), both[:1]), False)
        self.assertIs(is_paper(turning, (("g",), ((("g", 0),),)), both), True)

    def test_without_the_beginning(self):
        net = ((), (("g", ("same", "g")),), (True,))
        for thing in ([], [((False,), 0)]):
            self.assertIs(is_paper(net, ((), ((),)), thing), False)
        self.assertIs(is_paper(net, ((), ((),)), [((False,), 0), ((True,), 0)]), True)

    def test_things_in_the_place_of_the_list(self):
        for net, talk in safe_pairs()[::5]:
            told = model_stands(net, talk)
            for thing in (tuple(told), set(told), dict.fromkeys(told), dict(told), iter(told), None, (), "", 0, True):
                self.assertIs(is_paper(net, talk, thing), False)

    def test_lists_of_things_that_are_no_stands(self):
        net, talk = chain(2)
        told = model_stands(net, talk)
        setting, state = told[1]
        self.assertEqual(state, 1)
        near = [
            [setting, state], (list(setting), state), (setting,), (setting, state, state), (state, setting), setting,
            (tuple(int(value) for value in setting), state), (setting[:-1] + (int(setting[-1]),), state),
            (setting, True), (setting, 1.0), (setting, "1"), (setting, (1,)), (setting, -3), (setting, -1),
            (setting, len(talk[1])), (setting, 10 ** 400), (setting, None), (setting[:-1], state), ((), state),
            (setting + (True,), state), ("".join("01"[value] for value in setting), state), {setting: state}, [],
            (), "", 0, True, None, (None, None), net, talk, told,
        ]
        for thing in near + odd_things():
            self.assertIs(is_paper(net, talk, told[:1] + [thing] + told[2:]), False)
            self.assertIs(is_paper(net, talk, told + [thing]), False)
            self.assertIs(is_paper(net, talk, [thing]), False)
        begun = told[0][0]
        for thing in ((begun, False), (begun, 0.0), (tuple(int(value) for value in begun), 0), [begun, 0]):
            self.assertIs(is_paper(net, talk, [thing] + told[1:]), False)

    def test_odd_things_within_a_stand(self):
        net, talk = chain(1)
        told = model_stands(net, talk)
        for odd in odd_things():
            within = told[0][0][:-1] + (odd,)
            for thing in ((odd, 0), (told[0][0], odd), (odd, odd), (within, 0), (odd,)):
                self.assertIs(is_paper(net, talk, told + [thing]), False)
                self.assertIs(is_paper(net, talk, [thing] + told[1:]), False)

    def test_things_of_any_kind(self):
        around = []
        around.append(around)
        for net, talk in (chain(1), meeting(("or", ("a", "b")))):
            for thing in odd_things() + [around, Odd(), [Odd()], [[]], [None] * 8]:
                self.assertIs(is_paper(net, talk, thing), False)


class Refusals(unittest.TestCase):
    def test_what_is_no_net(self):
        for place, thing in enumerate(wrong_nets()):
            for talk in (GOOD_TALK, None):
                self.assertIsInstance(refusal(paper, thing, talk), NoNet, place)
                self.assertIsInstance(refusal(is_paper, thing, talk, []), NoNet, place)
        self.assertIsInstance(refusal(is_paper, Odd(), Odd(), Odd()), NoNet)

    def test_what_is_no_talk(self):
        for place, thing in enumerate(wrong_talks()):
            for net, kind in ((TALK_NET, NoTalk), (list(TALK_NET), NoNet)):
                self.assertIsInstance(refusal(paper, net, thing), kind, place)
                self.assertIsInstance(refusal(is_paper, net, thing, []), kind, place)
                self.assertIsInstance(refusal(is_paper, net, thing, None), kind, place)


class NothingChangedOrKept(unittest.TestCase):
    def test_lists_are_new_ones_each_time(self):
        net, talk = chain(2)
        first = paper(net, talk)
        kept = list(first)
        first.clear()
        self.assertEqual(paper(net, talk), kept)
        self.assertIsNot(paper(net, talk), paper(net, talk))

    def test_equal_things_give_equal_answers(self):
        for net, talk in all_pairs()[::25]:
            other_net, other_talk = copy.deepcopy([[net], [talk]])
            self.assertEqual(paper(other_net[0], other_talk[0]), paper(net, talk))
            told = model_stands(net, talk)
            self.assertIs(is_paper(other_net[0], other_talk[0], copy.deepcopy(told)), is_paper(net, talk, told))

    def test_what_is_handed_in_is_not_changed_or_kept(self):
        net, talk = chain(2)
        for thing in (model_stands(net, talk), [], [[]], model_stands(net, talk)[1:], [[[], 0], None]):
            before = copy.deepcopy(thing)
            counts = (sys.getrefcount(thing), sys.getrefcount(net), sys.getrefcount(talk))
            is_paper(net, talk, thing)
            paper(net, talk)
            self.assertEqual(thing, before)
            self.assertEqual((sys.getrefcount(thing), sys.getrefcount(net), sys.getrefcount(talk)), counts)


if __name__ == "__main__":
    unittest.main()
