import copy
import sys
import unittest
from itertools import product

from anywait.errors import Clash, NoTalk, Unlike
from anywait.faults import fault, paper
from anywait.making import clash, net_of, settings
from anywait.nets import checked
from anywait.stands import stands
from anywait.talks import checked_talk
from tests.families import GATES
from tests.made import (
    keeps_its_outs, made_samples, model_clash, model_net, model_settings, open_talk, rows_talk, stands_as_talks,
)
from tests.samples import GOOD_TALK, Odd, odd_things, refusal, wrong_names, wrong_talks

CALLS = (settings, clash, net_of)
MEET = (("c",), (
    (("a", 1), ("b", 2)), (("b", 3),), (("a", 3),), (("c", 4),),
    (("a", 5), ("b", 6)), (("b", 7),), (("a", 7),), (("c", 0),),
))
START = (False, True, True, False)
FAIR = (("d", "c"), ((("a", 1), ("d", 2)), (("a", 0),), ()))


def rows(text):
    """Settings, told by digits."""
    return [tuple(digit == "1" for digit in part) for part in text.split()]


class SettingsWorkedByHand(unittest.TestCase):
    def test_two_inputs_that_meet(self):
        self.assertEqual(settings(("a", "b"), MEET, (False,) * 3), rows("000 100 010 110 111 011 101 001"))
        self.assertEqual(settings(("b", "a"), MEET, (False,) * 3), rows("000 010 100 110 111 101 011 001"))
        self.assertEqual(settings(("a", "b"), MEET, (True,) * 3), rows("111 011 101 001 000 100 010 110"))

    def test_states_that_do_not_come(self):
        talk = (("g",), ((("a", 2),), (("g", 0),), (("g", 4),), (("a", 3), ("g", 1)), ()))
        self.assertEqual(settings(("a",), talk, (False, False)), [*rows("00"), None, *rows("10"), None, *rows("11")])

    def test_one_state(self):
        self.assertEqual(settings((), (("g",), ((),)), (True,)), [(True,)])
        self.assertEqual(settings(("a",), (("g",), ((), (("a", 1),))), (True, False)), [(True, False), None])

    def test_wires_are_the_inputs_and_then_the_outs(self):
        talk = (("h", "g"), ((("g", 1),), (("h", 2),), (("a", 3),), ()))
        self.assertEqual(settings(("a",), talk, (False,) * 3), rows("000 001 011 111"))

    def test_unlike_ways(self):
        for talk in (
            (("g",), ((("g", 0),),)),
            (("g",), ((("g", 1),), (("g", 2),), (("g", 0),))),
            (("g",), ((("a", 1), ("g", 1)), ())),
            (("g",), ((("a", 0),),)),
            (("g",), ((("a", 1), ("g", 2)), (("g", 3),), (("a", 4), ("g", 3)), (), ())),
        ):
            for call in CALLS:
                self.assertIsInstance(refusal(call, ("a",), talk, (False, False)), Unlike, talk)

    def test_unlike_ways_from_a_state_that_does_not_come_are_none(self):
        talk = (("g",), ((("g", 1),), (("g", 0),), (("g", 0), ("a", 0)), (("g", 3),)))
        self.assertEqual(settings(("a",), talk, (True, False)), [(True, False), (True, True), None, None])

    def test_states_one_behind_the_other(self):
        for number in range(2, 7):
            turning = rows_talk("g", "g" * number)
            if number % 2:
                self.assertIsInstance(refusal(settings, (), turning, (False,)), Unlike)
            else:
                self.assertEqual(settings((), turning, (False,)), rows("0 1" + " 0 1" * (number // 2 - 1)))
            self.assertEqual(settings((), open_talk("g", "g" * (number - 1)), (True,)), rows("1 0 1 0 1 0")[:number])
        self.assertEqual(settings(("a",), rows_talk("g", "agag"), (False, False)), rows("00 10 11 01"))
        self.assertEqual(settings(("a",), rows_talk("g", "aagg"), (False, False)), rows("00 10 00 01"))
        self.assertEqual(settings(("a",), rows_talk("g", "agaaga"), (False, False)), rows("00 10 11 01 11 10"))


class ClashesWorkedByHand(unittest.TestCase):
    def test_none(self):
        self.assertIsNone(clash(("a", "b"), MEET, (False,) * 3))
        self.assertIsNone(clash(("a",), rows_talk("g", "agag"), (False, False)))

    def test_one_setting_and_other_outs(self):
        self.assertEqual(clash(("a",), rows_talk("g", "aagg"), (False, False)), (0, 2))
        self.assertEqual(clash(("a",), rows_talk("g", "agaaga"), (False, False)), (1, 5))
        self.assertEqual(clash((), open_talk("g", "gg"), (False,)), (0, 2))
        self.assertEqual(clash((), open_talk("gh", "gghh"), (False, False)), (0, 2))
        self.assertEqual(clash((), open_talk("gh", "ghg"), (False, False)), None)

    def test_one_setting_and_the_same_outs_are_none(self):
        self.assertIsNone(clash((), rows_talk("g", "gggg"), (False,)))
        talk = (("g",), ((("a", 1),), (("a", 2),), ()))
        self.assertIsNone(clash(("a",), talk, (False, False)))
        led_elsewhere = (("g",), ((("g", 1),), (("g", 2),), (("g", 3),), (("g", 2),)))
        self.assertIsNone(clash((), led_elsewhere, (False,)))

    def test_the_order_of_moves_is_nothing(self):
        talk = (("g", "h"), ((("g", 1), ("h", 2), ("a", 3)), (), (), (("a", 4),), (("h", 2), ("g", 1))))
        self.assertIsNone(clash(("a",), talk, (False,) * 3))
        fewer = (("g", "h"), ((("g", 1), ("h", 2), ("a", 3)), (), (), (("a", 4),), (("h", 2),)))
        self.assertEqual(clash(("a",), fewer, (False,) * 3), (0, 4))

    def test_the_first_two_by_numbers(self):
        self.assertEqual(clash(("a",), open_talk("g", "aaaaaag"), (False, False)), (0, 6))
        talk = open_talk("gh", "ghhgagaa")
        self.assertEqual(settings(("a",), talk, (False,) * 3), rows("000 010 011 010 000 100 110 010 110"))
        self.assertEqual(clash(("a",), talk, (False,) * 3), (0, 4))
        talk = (("g",), ((("a", 1),), (("a", 3),), (("g", 4), ("a", 5)), (("a", 2),), (), (("g", 6),), ()))
        self.assertEqual(settings(("a",), talk, (False, False)), rows("00 10 10 00 11 00 01"))
        self.assertEqual(clash(("a",), talk, (False, False)), (0, 5))

    def test_the_lesser_number_is_told_first_whichever_comes_first(self):
        talk = (("g",), ((("a", 3),), (("g", 4),), (("a", 1),), (("a", 2),), ()))
        self.assertEqual(settings(("a",), talk, (False, False)), rows("00 10 00 10 11"))
        self.assertEqual(clash(("a",), talk, (False, False)), (1, 3))

    def test_states_that_do_not_come_do_not_clash(self):
        talk = (("g",), ((("g", 1),), (("g", 0),), (), (("a", 2),), (("g", 2), ("a", 2))))
        self.assertEqual(settings(("a",), talk, (False, False)), [*rows("00 01"), None, None, None])
        self.assertIsNone(clash(("a",), talk, (False, False)))
        self.assertIsNone(refusal(net_of, ("a",), talk, (False, False)))


class NetsWorkedByHand(unittest.TestCase):
    def test_two_inputs_that_meet(self):
        gate = ("c", ("table", ("a", "b", "c"), tuple(rows("011 101 110 111"))))
        for value in (False, True):
            start = (value,) * 3
            self.assertEqual(net_of(("a", "b"), MEET, start), (("a", "b"), (gate,), start))

    def test_a_gate_that_follows(self):
        made = net_of(("a",), rows_talk("g", "agag"), (False, False))
        self.assertEqual(made, (("a",), (("g", ("table", ("a", "g"), tuple(rows("10 11")))),), (False, False)))

    def test_gates_stand_in_the_order_of_the_outs(self):
        talk = (("h", "g"), rows_talk("gh", "aghagh")[1])
        names = ("a", "h", "g")
        self.assertEqual(settings(("a",), talk, (False,) * 3), rows("000 100 101 111 011 010"))
        follows = ("table", names, tuple(rows("011 101 111")))
        first = ("table", names, tuple(rows("100 101 111")))
        made = net_of(("a",), talk, (False,) * 3)
        self.assertEqual(made, (("a",), (("h", follows), ("g", first)), (False,) * 3))

    def test_a_gate_that_never_changes(self):
        self.assertEqual(net_of((), (("g",), ((),)), (False,)), ((), (("g", ("table", ("g",), ())),), (False,)))
        self.assertEqual(net_of((), (("g",), ((),)), (True,)), ((), (("g", ("table", ("g",), ((True,),))),), (True,)))

    def test_a_setting_of_several_states_is_one_row(self):
        made = net_of(("a",), open_talk("g", "aa"), (False, True))
        self.assertEqual(made[1], (("g", ("table", ("a", "g"), tuple(rows("01 11")))),))
        made = net_of((), rows_talk("g", "gggg"), (False,))
        self.assertEqual(made[1], (("g", ("table", ("g",), ((False,),))),))

    def test_states_that_do_not_come_make_no_row(self):
        talk = (("g",), ((("a", 1),), (), (("g", 0),)))
        self.assertEqual(net_of(("a",), talk, (False, False))[1], (("g", ("table", ("a", "g"), ())),))

    def test_clashes_are_refused(self):
        for row in ("aagg", "agaaga", "aaaagg"):
            self.assertIsInstance(refusal(net_of, ("a",), rows_talk("g", row), (False, False)), Clash)
            self.assertIsNone(refusal(settings, ("a",), rows_talk("g", row), (False, False)))
            self.assertIsNone(refusal(clash, ("a",), rows_talk("g", row), (False, False)))

    def test_as_many_wires_as_there_may_be(self):
        inputs = ("a", "b", "c")
        made = net_of(inputs, (GATES, ((("p", 1),), ())), (False, True) * 4)
        names = inputs + GATES
        before, behind = (False, True) * 4, (False, True) * 3 + (False, False)
        expected = [(behind, before) if value else () for value in before[3:7]] + [()]
        self.assertEqual(made, (inputs, tuple(
            (name, ("table", names, told)) for name, told in zip(GATES, expected)
        ), before))
        self.assertEqual(checked(made), made)


class ManyTalks(unittest.TestCase):
    def outcome(self, call, sample):
        error = refusal(call, *sample)
        return call(*sample) if error is None else type(error).__name__

    def test_settings_clashes_and_nets(self):
        found = []
        for sample in made_samples() + stands_as_talks():
            self.assertEqual(self.outcome(settings, sample), model_settings(*sample), sample)
            self.assertEqual(self.outcome(clash, sample), model_clash(*sample), sample)
            self.assertEqual(self.outcome(net_of, sample), model_net(*sample), sample)
            found.append(model_net(*sample))
        self.assertGreater(found.count("Unlike"), 100)
        self.assertGreater(found.count("Clash"), 100)
        self.assertGreater(len(found) - found.count("Clash") - found.count("Unlike"), 300)

    def test_rows_of_two_to_six_states(self):
        for number in range(2, 7):
            for row in product("agh", repeat=number):
                for talk in (rows_talk("gh", row), open_talk("hg", row[1:])):
                    sample = (("a",), talk, (False, True, False))
                    self.assertEqual(self.outcome(settings, sample), model_settings(*sample), sample)
                    self.assertEqual(self.outcome(clash, sample), model_clash(*sample), sample)
                    self.assertEqual(self.outcome(net_of, sample), model_net(*sample), sample)

    def test_where_outs_stay_the_made_net_is_safe(self):
        looked = 0
        for inputs, talk, start in made_samples() + stands_as_talks():
            if keeps_its_outs(talk) and not isinstance(model_net(inputs, talk, start), str):
                made = net_of(inputs, talk, start)
                self.assertIsNone(fault(made, talk), (inputs, talk, start))
                looked += 1
        self.assertGreater(looked, 100)

    def test_where_an_out_is_taken_away_it_need_not_be(self):
        talk = (("g",), ((("a", 1), ("g", 2)), (), ()))
        self.assertEqual(fault(net_of(("a",), talk, (False, False)), talk), ("taken", ["a"], "g"))

    def test_made_nets_are_nets_and_go_through_the_settings(self):
        for inputs, talk, start in made_samples():
            if keeps_its_outs(talk) and not isinstance(model_net(inputs, talk, start), str):
                made = net_of(inputs, talk, start)
                self.assertEqual(checked_talk(checked(made), talk), talk)
                told = settings(inputs, talk, start)
                come = [(setting, state) for state, setting in enumerate(told) if setting is not None]
                self.assertEqual(sorted(stands(made, talk)), sorted(come))

    def test_the_stands_of_safe_nets_as_talks(self):
        looked = 0
        for inputs, talk, start in stands_as_talks():
            told = settings(inputs, talk, start)
            self.assertNotIn(None, told)
            if clash(inputs, talk, start) is None:
                made = net_of(inputs, talk, start)
                come = [(setting, state) for state, setting in enumerate(told)]
                self.assertEqual(paper(made, talk), come)
                looked += 1
            else:
                self.assertIsInstance(refusal(net_of, inputs, talk, start), Clash)
        self.assertGreater(looked, 200)


class Refusals(unittest.TestCase):
    def refused(self, inputs, talk, start, error=NoTalk):
        for call in CALLS:
            self.assertIsInstance(refusal(call, inputs, talk, start), error, call)

    def test_what_is_let_by(self):
        for call in CALLS:
            self.assertIsNone(refusal(call, ("a", "b"), FAIR, START))
            self.assertIsNone(refusal(call, (), (("inputs",), ((),) * 12), (True,)))

    def test_what_are_no_inputs(self):
        wrong = [
            "ab", "", ["a", "b"], {"a": 1, "b": 2}, ("a",), ("a", "b", "e"), ("a", "a"), ("a", "c"), ("d", "a"), (), 1,
            ("a", ("b",)), (("a", "b"),), True, ("a", "b", "e", "f"), ("b", "e"),
        ]
        for thing in wrong + odd_things():
            self.refused(thing, FAIR, START)
        for thing in odd_things() + wrong_names():
            self.refused(("a", thing), FAIR, START)
            self.refused((thing,), (("g",), ((),)), (True, True))
        self.refused(("a", "b", "c", "d"), (("g",), ((),)), (True,) * 5)
        self.refused(["a"], (("g",), ((),)), (True, True))
        self.refused(("g",), (("g",), ((),)), (True, True))
        self.refused(("g",), (("g",), ((),)), (True,))

    def test_what_is_no_talk(self):
        for thing in wrong_talks():
            self.refused(("a", "b"), thing, START)
        for thing in odd_things() + wrong_names():
            self.refused((), ((thing,), ((),)), (True,))
            self.refused(("a", "b"), (("d", "c", thing), FAIR[1]), START + (True,))

    def test_how_many_outs(self):
        self.refused((), ((), ((),)), ())
        self.refused(("a",), ((), ((("a", 1),), ())), (True,))
        self.refused(("a",), ((), ((),)), (True,))
        six = GATES + ("q",)
        self.refused((), (six, ((),)), (True,) * 6)
        self.refused(("a",), (six, ((),)), (True,) * 7)
        for number in range(1, 6):
            for call in CALLS:
                self.assertIsNone(refusal(call, (), (GATES[:number], ((),)), (True,) * number))

    def test_how_many_states(self):
        self.refused((), (("g",), ()), (True,))
        self.refused((), (("g",), ((),) * 13), (True,))

    def test_what_is_no_start(self):
        wrong = [
            (), START[1:], START[:-1], START + (True,), list(START), (1, 0, 1, 0), START[:-1] + (0,), (0,) + START[1:],
            "0110", (START,), True, 4, START[:-1] + (None,), dict.fromkeys(range(4)), START * 2,
        ]
        for thing in wrong + odd_things():
            self.refused(("a", "b"), FAIR, thing)
        for thing in odd_things() + [0, 1, "on", (True,)]:
            self.refused(("a", "b"), FAIR, START[:-1] + (thing,))

    def test_the_refusal_that_is_named_first(self):
        unlike = (("g",), ((("a", 0),),))
        clashing = open_talk("g", "aag")
        both = (("g",), ((("a", 1),), (("a", 2),), (("g", 3),), (("g", 0), ("a", 3))))
        for start in ((False, 0), [False, False], (False,), None, Odd()):
            for talk in (unlike, clashing, both):
                self.refused(("a",), talk, start)
                self.refused(["a"], talk, start)
        self.refused(("a", "g"), both, (False,) * 3)
        self.refused(("a",), both, (False, False), Unlike)
        self.refused(("a",), unlike, (False, False), Unlike)
        self.assertIsInstance(refusal(net_of, ("a",), clashing, (False, False)), Clash)
        self.refused(("a", "b"), GOOD_TALK, START, Unlike)


class NothingChangedOrKept(unittest.TestCase):
    def test_lists_are_new_ones_each_time(self):
        for sample in made_samples()[::5]:
            if model_settings(*sample) != "Unlike":
                told = settings(*sample)
                self.assertIsInstance(told, list)
                kept = copy.deepcopy(told)
                told.append("other")
                self.assertEqual(settings(*sample), kept)

    def test_the_forms_of_what_is_told(self):
        for sample in made_samples()[::5]:
            found = model_clash(*sample)
            if isinstance(found, tuple):
                self.assertEqual([type(part) for part in clash(*sample)], [int, int])
                self.assertIsInstance(clash(*sample), tuple)

    def test_equal_things_give_equal_answers(self):
        for sample in made_samples()[::9]:
            if not isinstance(model_net(*sample), str):
                other = copy.deepcopy([sample])[0]
                for call in CALLS:
                    self.assertEqual(call(*other), call(*sample))

    def test_what_is_handed_in_is_not_kept(self):
        things = tuple(list("ab")), copy.deepcopy([MEET])[0], tuple([False] * 3)
        for call in CALLS:
            before = [sys.getrefcount(thing) for thing in things]
            call(*things)
            self.assertEqual([sys.getrefcount(thing) for thing in things], before)


if __name__ == "__main__":
    unittest.main()
