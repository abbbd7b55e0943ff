import copy
import sys
import unittest

from anywait.errors import NoNet, NoNumber, NoTalk, NoWaits
from anywait.waits import timed
from tests.families import Picker, all_pairs, bare_pairs, chain, chains, meeting, ring, rings, some_waits
from tests.model import model_behind, model_steps, step_to, wires_of
from tests.samples import GOOD_TALK, TALK_NET, Odd, refusal, wrong_nets, wrong_numbers, wrong_talks, wrong_waits
from tests.wait_model import came_behind, model_timed, steps_along

FREE = ((), ((("a", 0),),))
FOLLOWS = (("a",), (("g", ("same", "a")),), (False, False))
TURNS = ((), (("g", ("not", "g")),), (False,))
GOOD_WAITS = (1, 99, 2, 3, 50)


def told(text):
    """Changes written as a time and a wire each."""
    parts = text.split()
    return list(zip(map(int, parts[::2]), parts[1::2]))


class WorkedByHand(unittest.TestCase):
    def check(self, pair, waits, text, word, number=None):
        expected = told(text)
        number = len(expected) if number is None else number
        self.assertEqual(timed(*pair, waits, number), (expected, word))

    def test_two_inputs_that_meet(self):
        self.check(meeting(), (3, 5, 2), "3 a 5 b 7 c 10 a 12 b 14 c 17 a", "on")
        self.check(meeting(), (5, 3, 2), "3 b 5 a 7 c 10 b 12 a 14 c 17 b", "on")
        self.check(meeting(), (99, 1, 98), "1 b 99 a 197 c 198 b 296 a 394 c", "on")

    def test_of_several_that_are_due_the_first_in_order_changes_first(self):
        self.check(meeting(), (4, 4, 4), "4 a 4 b 8 c 12 a 12 b 16 c", "on")
        gates = tuple((name, ("not", name)) for name in ("z", "b", "m"))
        self.check((((), gates, (False,) * 3), ((), ((),))), (2, 2, 1), "1 m 2 z 2 b 2 m 3 m 4 z 4 b 4 m", "on")
        self.check((((), gates[::-1], (False,) * 3), ((), ((),))), (1, 2, 2), "1 m 2 m 2 b 2 z 3 m 4 m 4 b", "on")

    def test_a_chain_of_two(self):
        self.check(chain(2), (1, 1, 1, 1), "1 r 2 g 3 r 3 h 4 k 4 g 5 r 5 h 6 k 6 g", "on")
        self.check(chain(2), (5, 1, 1, 2), "5 r 6 g 8 h 9 k 11 r 12 g 14 h 15 k", "on")

    def test_a_ring_of_three(self):
        self.check(ring((True, False, False)), (1, 2, 3), "2 h 3 g 6 m 8 h 9 g 12 m", "on")
        self.check(ring((True, True, True)), (1, 2, 3), "", "end", 40)

    def test_a_gate_that_does_not_wait_any_more_does_not_change(self):
        self.check((FOLLOWS, FREE), (2, 3), "2 a 4 a 6 a 8 a", "on")
        self.check((FOLLOWS, FREE), (2, 2), "2 a 4 a 6 a 8 a", "on")
        self.check((FOLLOWS, FREE), (3, 2), "3 a 5 g 6 a 8 g 9 a", "on")

    def test_what_comes_to_be_a_step_again_waits_all_its_wait_again(self):
        self.check((FOLLOWS, ((), ((("a", 1),), (("a", 2),), (("a", 3),), ()))), (2, 3), "2 a 4 a 6 a 9 g", "end")

    def test_an_input_that_its_state_does_not_have_for_a_while(self):
        still = (("a", "b"), (("g", ("same", "g")),), (False,) * 3)
        dropped = ((), ((("a", 1), ("b", 3)), (("a", 2),), (("b", 3),), ()))
        self.check((still, dropped), (2, 5, 1), "2 a 4 a 9 b", "end")
        kept = ((), ((("a", 1), ("b", 3)), (("a", 2), ("b", 3)), (("b", 3),), ()))
        self.check((still, kept), (2, 5, 1), "2 a 4 a 5 b", "end")
        self.check((still, kept), (3, 5, 1), "3 a 5 b", "end", 40)

    def test_its_own_change_makes_a_step_anew(self):
        self.check((TURNS, ((), ((),))), (7,), "7 g 14 g 21 g", "on")
        self.check((TURNS, (("g",), ((("g", 0),),))), (99,), "99 g 198 g", "on")

    def test_no_changes_are_asked_for(self):
        self.check(meeting(), (1, 1, 1), "", "on", 0)
        self.check(ring((False,) * 3), (1, 1, 1), "", "end", 0)
        self.check((TURNS, (("g",), ((),))), (1,), "", "on", 0)

    def test_the_end(self):
        pair = (FOLLOWS, (("g",), ((("a", 1),), (("g", 2),), ())))
        self.check(pair, (3, 4), "3 a 7 g", "end", 3)
        self.check(pair, (3, 4), "3 a 7 g", "end", 2)
        self.check(pair, (3, 4), "3 a", "on", 1)
        self.check(pair, (3, 4), "3 a 7 g", "end", 200)

    def test_stuck_is_an_end_too(self):
        self.check(meeting(("table", ("a", "b"), ())), (2, 3, 1), "2 a 3 b", "end", 9)

    def test_the_unasked_change_stands_last(self):
        pair = (TURNS, (("g",), ((("g", 1),), ())))
        self.check(pair, (4,), "4 g 8 g", "unasked", 2)
        self.check(pair, (4,), "4 g 8 g", "unasked", 200)
        self.check(pair, (4,), "4 g", "on", 1)
        self.check(meeting(("or", ("a", "b"))), (2, 4, 1), "2 a 3 c", "unasked", 40)

    def test_whether_a_change_is_unasked_is_asked_when_it_is_made(self):
        pair = ((("a",), TURNS[1], (False, False)), (("g",), ((("a", 1),), (("g", 2),), ())))
        self.check(pair, (2, 3), "2 a 3 g 6 g", "unasked", 40)
        self.check(pair, (3, 3), "3 a 3 g 6 g", "unasked", 40)
        self.check(pair, (4, 3), "3 g", "unasked", 40)
        self.check(meeting(("or", ("a", "b"))), (2, 2, 1), "2 a 2 b 3 c 5 a 5 b 6 c", "on")
        self.check(meeting(("or", ("a", "b"))), (2, 3, 1), "2 a 3 b 3 c 5 a 6 b 7 c", "on")

    def test_as_many_as_may_be_asked_for(self):
        changes = timed(TURNS, ((), ((),)), (99,), 200)
        self.assertEqual(changes, ([(99 * number, "g") for number in range(1, 201)], "on"))


class AllPairs(unittest.TestCase):
    def test_waits_of_one_to_four(self):
        pick = Picker(3)
        words = []
        for net, talk in all_pairs():
            for number in (pick.below(41), pick.below(8), 40):
                waits = some_waits(net, pick, 4)
                found = timed(net, talk, waits, number)
                self.assertEqual(found, model_timed(net, talk, waits, number), (net, talk, waits, number))
                words.append(found[1])
        for word in ("on", "end", "unasked"):
            self.assertGreater(words.count(word), 300, word)

    def test_waits_to_99(self):
        pick = Picker(4)
        for net, talk in all_pairs()[::6] + chains() + bare_pairs() + rings()[::4]:
            waits = some_waits(net, pick, 99)
            number = pick.below(41)
            self.assertEqual(timed(net, talk, waits, number), model_timed(net, talk, waits, number), (net, talk, waits))

    def test_fewer_changes_are_the_first_ones_of_more(self):
        pick = Picker(5)
        for net, talk in all_pairs()[::10]:
            waits = some_waits(net, pick, 4)
            changes, word = timed(net, talk, waits, 40)
            for number in range(len(changes)):
                self.assertEqual(timed(net, talk, waits, number), (changes[:number], "on"))
            self.assertEqual(timed(net, talk, waits, len(changes)), (changes, word))

    def test_each_change_comes_its_wait_behind_what_made_it_a_step(self):
        pick = Picker(6)
        for net, talk in all_pairs()[::3]:
            waits = some_waits(net, pick, 6)
            lengths = dict(zip(wires_of(net), waits))
            changes, word = timed(net, talk, waits, 24)
            times = [0] + [time for time, wire in changes]
            run = [wire for time, wire in changes]
            self.assertEqual(times, sorted(times))
            free = steps_along(net, talk, run)
            for number, wire in enumerate(run):
                self.assertIn(wire, free[number])
                since = times[came_behind(free, run, number)]
                self.assertEqual(times[number + 1], since + lengths[wire], (net, talk, waits))

    def test_no_step_is_late_and_of_those_due_at_once_the_first_changes(self):
        pick = Picker(8)
        for net, talk in all_pairs()[1::6]:
            waits = some_waits(net, pick, 3)
            lengths = dict(zip(wires_of(net), waits))
            changes, word = timed(net, talk, waits, 16)
            times = [0] + [time for time, wire in changes]
            run = [wire for time, wire in changes]
            free = steps_along(net, talk, run)
            for number, wire in enumerate(run):
                dues = [
                    times[came_behind(free, run[:number] + [other], number)] + lengths[other] for other in free[number]
                ]
                self.assertEqual(min(dues), times[number + 1])
                self.assertEqual(free[number][dues.index(min(dues))], wire)

    def test_how_it_ends(self):
        pick = Picker(9)
        for net, talk in all_pairs()[::2]:
            number = pick.below(20)
            changes, word = timed(net, talk, some_waits(net, pick, 4), number)
            run = [wire for time, wire in changes]
            self.assertLessEqual(len(run), number)
            if word == "unasked":
                ahead = model_behind(net, talk, run[:-1])
                self.assertIsNone(step_to(talk, ahead, run[-1], net))
            elif word == "end":
                self.assertEqual(model_steps(net, talk, model_behind(net, talk, run)), [])
            else:
                self.assertEqual((word, len(run)), ("on", number))
                self.assertNotEqual(model_steps(net, talk, model_behind(net, talk, run)), [])

    def test_the_form_of_what_is_told(self):
        for net, talk in all_pairs()[::20]:
            found = timed(net, talk, (1,) * len(net[2]), 9)
            self.assertIsInstance(found, tuple)
            self.assertIsInstance(found[0], list)
            for change in found[0]:
                self.assertIsInstance(change, tuple)
                self.assertIs(type(change[0]), int)


class Refusals(unittest.TestCase):
    def test_what_is_no_net(self):
        for place, thing in enumerate(wrong_nets()):
            self.assertIsInstance(refusal(timed, thing, GOOD_TALK, GOOD_WAITS, 5), NoNet, place)
            self.assertIsInstance(refusal(timed, thing, None, None, None), NoNet, place)

    def test_what_is_no_talk(self):
        for place, thing in enumerate(wrong_talks()):
            self.assertIsInstance(refusal(timed, TALK_NET, thing, GOOD_WAITS, 5), NoTalk, place)
            self.assertIsInstance(refusal(timed, TALK_NET, thing, [1], True), NoTalk, place)
            self.assertIsInstance(refusal(timed, list(TALK_NET), thing, GOOD_WAITS, 5), NoNet, place)

    def test_what_are_no_waits(self):
        for place, thing in enumerate(wrong_waits(5)):
            self.assertIsInstance(refusal(timed, TALK_NET, GOOD_TALK, thing, 5), NoWaits, place)
            self.assertIsInstance(refusal(timed, TALK_NET, GOOD_TALK, thing, -1), NoWaits, place)
            self.assertIsInstance(refusal(timed, TALK_NET, list(GOOD_TALK), thing, 5), NoTalk, place)
            self.assertIsInstance(refusal(timed, None, GOOD_TALK, thing, 5), NoNet, place)

    def test_what_is_no_number(self):
        for place, thing in enumerate(wrong_numbers(0, 200)):
            self.assertIsInstance(refusal(timed, TALK_NET, GOOD_TALK, GOOD_WAITS, thing), NoNumber, place)
            self.assertIsInstance(refusal(timed, TALK_NET, GOOD_TALK, GOOD_WAITS[:-1], thing), NoWaits, place)
            self.assertIsInstance(refusal(timed, TALK_NET, (), GOOD_WAITS, thing), NoTalk, place)
            self.assertIsInstance(refusal(timed, (), GOOD_TALK, GOOD_WAITS, thing), NoNet, place)
        self.assertIsInstance(refusal(timed, TALK_NET, GOOD_TALK, GOOD_WAITS, Odd()), NoNumber)

    def test_a_wrong_number_is_refused_where_nothing_changes_too(self):
        net, talk = ring((True,) * 3)
        for number in (201, -1, True):
            self.assertIsInstance(refusal(timed, net, talk, (1, 1, 1), number), NoNumber)

    def test_the_edges_are_let_by(self):
        for waits in (GOOD_WAITS, (1,) * 5, (99,) * 5):
            for number in (0, 1, 199, 200):
                self.assertIsNone(refusal(timed, TALK_NET, GOOD_TALK, waits, number))


class NothingChangedOrKept(unittest.TestCase):
    def test_lists_are_new_ones_each_time(self):
        for net, talk in all_pairs()[::9]:
            waits = (2,) * len(net[2])
            first = timed(net, talk, waits, 8)
            kept = copy.deepcopy(first)
            first[0].append("other")
            self.assertEqual(timed(net, talk, waits, 8), kept)

    def test_equal_things_give_equal_answers(self):
        for net, talk in all_pairs()[::25]:
            waits = tuple(range(1, len(net[2]) + 1))
            other = copy.deepcopy([[net], [talk], [waits]])
            self.assertEqual(timed(other[0][0], other[1][0], other[2][0], 30), timed(net, talk, waits, 30))

    def test_what_is_handed_in_is_not_kept(self):
        net, talk = chain(2)
        waits = tuple([3, 1, 4, 2])
        before = [sys.getrefcount(thing) for thing in (net, net[2], talk, waits)]
        timed(net, talk, waits, 50)
        self.assertEqual([sys.getrefcount(thing) for thing in (net, net[2], talk, waits)], before)


if __name__ == "__main__":
    unittest.main()
