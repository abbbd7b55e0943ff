import copy
import sys
import unittest
from functools import lru_cache

from anywait.errors import NoNet, NoTalk
from anywait.faults import fault
from anywait.seeing import undone
from tests.families import GATES, Picker, all_pairs, chain, great_pairs, meeting, ring, some_run
from tests.model import wires_of
from tests.samples import GOOD_TALK, TALK_NET, Odd, odd_things, refusal, wrong_nets, wrong_talks
from tests.seen_model import is_seen, model_undone, rows_of_talk, seen_pairs, seen_wires, walk_of

STILL = (("a", "b"), (("g", ("same", "g")), ("h", ("same", "h"))), (False,) * 4)


@lru_cache(maxsize=None)
def answers():
    return [(net, talk, undone(net, talk)) for net, talk in seen_pairs()]


class WorkedByHand(unittest.TestCase):
    def test_all_is_done(self):
        self.assertIsNone(undone(*meeting()))
        self.assertIsNone(undone(*chain(1)))
        self.assertIsNone(undone(STILL, ((), ((("b", 1), ("a", 0)), ()))))
        self.assertIsNone(undone(STILL, (("g", "h"), ((("a", 0),), (("g", 0),)))))

    def test_an_out_that_never_comes(self):
        net = meeting()[0]
        talk = (("c",), ((("a", 1), ("b", 2)), (("b", 3), ("c", 0)), (("a", 3),), (("c", 0),)))
        self.assertEqual(undone(net, talk), ["a", "c"])
        talk = (("c",), ((("a", 1), ("b", 2)), (("b", 3),), (("c", 1), ("a", 3)), (("c", 0),)))
        self.assertEqual(undone(net, talk), ["b", "c"])
        talk = (("c",), ((("a", 1), ("b", 2), ("c", 0)), (("b", 3),), (("a", 3),), (("c", 0),)))
        self.assertEqual(undone(net, talk), ["c"])

    def test_shorter_ones_first(self):
        talk = (("g",), ((("a", 1), ("b", 3)), (("a", 2),), (("g", 0),), (("g", 0),)))
        self.assertEqual(undone(STILL, talk), ["b", "g"])
        talk = (("g",), ((("a", 1), ("b", 2)), (("a", 3),), (("b", 3),), (("g", 0),)))
        self.assertEqual(undone(STILL, talk), ["a", "a", "g"])

    def test_then_by_the_order_of_the_wires(self):
        talk = (("h", "g"), ((("b", 1), ("a", 2)), (("h", 0), ("g", 0)), (("h", 0), ("g", 0))))
        self.assertEqual(undone(STILL, talk), ["a", "g"])
        turned = (("b", "a"), STILL[1][::-1], STILL[2])
        self.assertEqual(undone(turned, talk), ["b", "h"])
        talk = (("h", "g"), ((("h", 0), ("g", 0)),))
        self.assertEqual(undone(STILL, talk), ["g"])

    def test_the_first_ones_are_by_the_first_wires_that_differ(self):
        talk = (("g",), ((("a", 1), ("b", 2)), (("b", 3),), (("a", 4),), (("g", 0),), (("g", 0),)))
        self.assertEqual(undone(STILL, talk), ["a", "b", "g"])

    def test_a_state_that_never_comes_is_no_row(self):
        self.assertIsNone(undone(STILL, (("g",), ((), (("g", 0),)))))

    def test_behind_what_comes_once_alone(self):
        net = (("a",), (("g", ("or", ("a", "g"))),), (False, False))
        talk = (("g",), ((("a", 1),), (("g", 2),), (("a", 0),)))
        self.assertEqual(undone(net, talk), ["a", "g", "a", "a", "g"])

    def test_unseen_changes_lead_to_what_is_seen(self):
        net = ((), (("g", ("not", "h")), ("h", ("same", "m")), ("m", ("not", "g"))), (False,) * 3)
        self.assertIsNone(undone(net, (("h",), ((("h", 0),),))))
        self.assertIsNone(undone(*ring((True, False, False), GATES[:1])))
        self.assertEqual(undone(*ring((True, False, False), GATES[1:3])), ["m"])

    def test_where_it_is_not_safe(self):
        net, talk = meeting(("or", ("a", "b")))
        self.assertIsNotNone(fault(net, talk))
        self.assertIsNone(undone(net, talk))
        net, talk = meeting(("and", ("a", "b")))
        self.assertIsNone(undone(net, talk))
        net, talk = meeting(("same", "c"))
        self.assertEqual(undone(net, talk), ["a", "b", "c"])

    def test_a_gate_that_may_be_taken_back_is_seen_ahead_of_that(self):
        net = (("a",), (("g", ("same", "a")),), (False, False))
        self.assertIsNone(undone(net, (("g",), ((("a", 1),), (("a", 0), ("g", 2)), ()))))
        self.assertEqual(undone(net, (("g",), ((("a", 1),), (("a", 2), ("g", 0)), (("g", 0),)))), ["a", "a", "g"])

    def test_an_unseen_choice(self):
        gates = (("g", ("and", ("a", "h"))), ("h", ("not", "a")), ("m", ("same", "g")))
        net = (("a",), gates, (False, False, True, False))
        talk = (("m",), ((("a", 1),), (("m", 2), ("a", 3)), (("a", 3),), (("m", 3),)))
        self.assertEqual(undone(net, talk), ["a", "a", "m", "m", "m"])
        self.assertEqual(undone(net, (("m",), talk[1][:3] + ((),))), None)
        self.assertEqual(undone(net, (("m",), talk[1][:2] + ((("m", 2),), ()))), ["a", "m", "m", "m"])


class Families(unittest.TestCase):
    def test_the_model(self):
        numbers = {}
        for net, talk, row in answers():
            self.assertEqual(row, model_undone(net, talk))
            number = row if row is None else len(row)
            numbers[number] = numbers.get(number, 0) + 1
        for number in (None, 1, 2, 3, 4, 5):
            self.assertGreater(numbers[number], 5)

    def test_a_row_of_the_talk_that_is_not_seen(self):
        for net, talk, row in answers():
            if row is not None:
                state = 0
                for wire in row:
                    state = dict(talk[1][state])[wire]
                self.assertFalse(is_seen(net, talk, row))
                self.assertTrue(is_seen(net, talk, row[:-1]))
                self.assertIn(row[-1], talk[0])

    def test_each_row_ahead_is_seen(self):
        for net, talk, row in answers()[::3]:
            most = 4 if row is None else min(len(row), 6)
            for place, (ahead, state) in enumerate(rows_of_talk(net, talk, most)):
                if place > 80 or list(ahead) == row:
                    break
                self.assertTrue(is_seen(net, talk, ahead))

    def test_what_is_seen_of_runs_is_done(self):
        pick = Picker(121)
        for net, talk, row in answers():
            for again in range(2 if row else 0):
                run = some_run(net, talk, pick)
                self.assertNotEqual([wire for wire in run if wire in seen_wires(net, talk)][:len(row)], row)

    def test_without_outs_all_is_done(self):
        for net, talk in all_pairs():
            if not talk[0]:
                self.assertIsNone(undone(net, talk))
        self.assertIsNone(undone(*great_pairs()[0]))

    def test_walks(self):
        for number in range(3, 33):
            net, talk = walk_of(number)
            self.assertEqual(undone(net, talk), ["h"])


class Refusals(unittest.TestCase):
    def test_what_is_no_net(self):
        for thing in wrong_nets():
            self.assertIsInstance(refusal(undone, thing, GOOD_TALK), NoNet)

    def test_what_is_no_talk(self):
        for thing in wrong_talks():
            self.assertIsInstance(refusal(undone, TALK_NET, thing), NoTalk)

    def test_the_refusal_that_is_named_first(self):
        for thing in odd_things() + [list(TALK_NET), TALK_NET[:2], 1]:
            for talk in (None, Odd(), (), list(GOOD_TALK), ((), ())):
                self.assertIsInstance(refusal(undone, thing, talk), NoNet)


class NothingChangedOrKept(unittest.TestCase):
    def test_the_form(self):
        for net, talk, row in answers():
            if row is not None:
                self.assertIsInstance(row, list)
                self.assertTrue(all(isinstance(wire, str) and wire in wires_of(net) for wire in row))

    def test_lists_are_new_ones_each_time(self):
        for net, talk, row in answers()[::5]:
            if row is not None:
                told = undone(net, talk)
                told.append("other")
                self.assertEqual(undone(net, talk), row)

    def test_equal_things_give_equal_answers(self):
        for net, talk, row in answers()[::5]:
            other, same = copy.deepcopy([net, talk])
            self.assertEqual(undone(other, same), row)
            self.assertEqual([other, same], [net, talk])

    def test_what_is_handed_in_is_not_kept(self):
        things = copy.deepcopy(list(chain(2)))
        before = [sys.getrefcount(thing) for thing in things]
        undone(*things)
        self.assertEqual([sys.getrefcount(thing) for thing in things], before)


if __name__ == "__main__":
    unittest.main()
