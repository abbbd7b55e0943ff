import copy
import sys
import unittest
from functools import lru_cache
from itertools import combinations

from anywait.errors import NoNet, NoTalk, TooBig
from anywait.faults import fault, paper
from anywait.making import net_of
from anywait.seeing import seen_talk, undone
from anywait.talks import checked_talk
from tests.families import GATES, Picker, chain, great_pairs, meeting, meetings_with_more, ring, some_run
from tests.made import keeps_its_outs, made_samples, model_net
from tests.model import model_fault, wires_of
from tests.samples import GOOD_TALK, TALK_NET, Odd, odd_things, refusal, wrong_nets, wrong_talks
from tests.seen_model import (
    Groups, are_alike, first_group, is_seen, model_seen, rows_of_talk, seen_pairs, seen_wires, walk_of,
)

FOUR = (("c",), ((("a", 1), ("b", 2)), (("b", 3),), (("a", 3),), (("c", 0),)))


@lru_cache(maxsize=None)
def answers():
    """Pairs of net and talk, with the seen talk, None, or the text TooBig."""
    found = []
    for net, talk in seen_pairs():
        error = refusal(seen_talk, net, talk)
        found.append((net, talk, seen_talk(net, talk) if error is None else type(error).__name__))
    return found


def safe_answers():
    return [(net, talk, seen) for net, talk, seen in answers() if isinstance(seen, tuple)]


class WorkedByHand(unittest.TestCase):
    def test_all_of_the_talk(self):
        self.assertEqual(seen_talk(*meeting()), FOUR)
        self.assertEqual(seen_talk(*chain(1)), chain(1)[1])

    def test_the_fewest_states(self):
        net = meeting()[0]
        talk = (("c",), (
            (("a", 1), ("b", 2)), (("b", 3),), (("a", 3),), (("c", 4),),
            (("a", 5), ("b", 6)), (("b", 7),), (("a", 7),), (("c", 0),),
        ))
        self.assertEqual(seen_talk(net, talk), FOUR)

    def test_numbers_and_moves_in_order(self):
        net = meeting()[0]
        talk = (("c",), ((("b", 3), ("a", 1)), (("b", 2),), (("c", 0),), (("a", 2),), (("a", 4),)))
        self.assertEqual(seen_talk(net, talk), FOUR)
        other = (("b", "a"), net[1], net[2])
        turned = (("c",), ((("b", 1), ("a", 2)), (("a", 3),), (("b", 3),), (("c", 0),)))
        self.assertEqual(seen_talk(other, talk), turned)

    def test_outs_stay_as_they_are(self):
        net = (("a",), (("g", ("same", "a")), ("h", ("same", "a"))), (False,) * 3)
        talk = (("h", "g"), ((("a", 1),), (("h", 2), ("g", 3)), (("g", 0),), (("h", 0),)))
        seen = (("h", "g"), ((("a", 1),), (("g", 2), ("h", 3)), (("h", 0),), (("g", 0),)))
        self.assertEqual(seen_talk(net, talk), seen)

    def test_what_the_net_never_does_is_left_out(self):
        net = (("a",), (("g", ("or", ("a", "g"))),), (False, False))
        talk = (("g",), ((("a", 1),), (("g", 2),), (("g", 0), ("a", 3)), (("a", 2),)))
        self.assertEqual(seen_talk(net, talk), (("g",), ((("a", 1),), (("g", 2),), (("a", 2),))))

    def test_gates_that_are_no_outs_are_not_seen(self):
        behind, ahead, turned = meetings_with_more()
        self.assertEqual(seen_talk(*ahead), FOUR)
        self.assertEqual(seen_talk(*turned), (("d",), tuple(
            tuple(("d" if wire == "c" else wire, state) for wire, state in moves) for moves in FOUR[1]
        )))
        self.assertEqual(seen_talk(*ring((True, False, False), ("h", "m"))), (("h", "m"), ((("h", 1),), (("m", 0),))))
        self.assertEqual(seen_talk(*ring((True, False, False))), ((), ((),)))

    def test_what_the_net_keeps_in_mind_makes_more_states(self):
        self.assertEqual(seen_talk(*chain(2)), (("g", "h"), (
            (("r", 1),), (("g", 2),), (("r", 3), ("h", 4)), (("h", 5),), (("r", 5), ("k", 0)), (("k", 1), ("g", 6)),
            (("r", 7), ("k", 2)), (("k", 3),),
        )))
        net, talk = ring((True, False, False), GATES[:3])
        self.assertEqual(seen_talk(net, talk), (GATES[:3], ((("h", 1),), (("g", 2),), (("m", 0),))))

    def test_none_where_they_are_not_safe(self):
        for kind in (("or", ("a", "b")), ("same", "c"), ("not", "a"), ("and", ("a", "b"))):
            self.assertIsNone(seen_talk(*meeting(kind)))
        self.assertIsNone(seen_talk(*meetings_with_more()[0]))

    def test_a_talk_of_nothing(self):
        net = ((), (("g", ("not", "g")),), (True,))
        self.assertEqual(seen_talk(net, ((), ((),))), ((), ((),)))
        self.assertEqual(seen_talk(net, ((), ((), ()))), ((), ((),)))
        self.assertEqual(seen_talk(net, (("g",), ((("g", 1),), (("g", 0),)))), (("g",), ((("g", 0),),)))


class HowBig(unittest.TestCase):
    def test_twelve_states_and_one_more(self):
        self.assertEqual(len(seen_talk(*chain(3))[1]), 12)
        for number in range(2, 13):
            net, talk = walk_of(number + 1)
            self.assertEqual(len(seen_talk(net, talk)[1]), number)
        for number in range(13, 18):
            net, talk = walk_of(number + 1)
            self.assertIsNone(fault(net, talk))
            self.assertEqual(len(model_seen(net, talk)[1]), number)
            self.assertIsInstance(refusal(seen_talk, net, talk), TooBig)
        self.assertIsInstance(refusal(seen_talk, *chain(4)), TooBig)

    def test_more_views_than_states(self):
        net, talk = great_pairs()[1]
        self.assertIsNone(refusal(undone, net, talk))

    def test_not_safe_is_told_ahead_of_too_big(self):
        net, talk = walk_of(16)
        short = (GATES, (tuple((name, 0) for name in GATES[1:]),))
        self.assertIsNotNone(fault(net, short))
        self.assertIsNone(seen_talk(net, short))


class Families(unittest.TestCase):
    def test_the_model(self):
        numbers = {}
        for net, talk, seen in answers():
            expected = model_seen(net, talk)
            if expected is not None and len(expected[1]) > 12:
                expected = "TooBig"
            self.assertEqual(seen, expected)
            number = expected if expected is None or expected == "TooBig" else len(expected[1])
            numbers[number] = numbers.get(number, 0) + 1
        self.assertGreater(numbers["TooBig"], 5)
        self.assertGreater(numbers[None], 500)
        for number in range(1, 13):
            self.assertIn(number, numbers)
        self.assertGreater(sum(numbers[number] for number in range(3, 13)), 200)

    def test_none_just_where_they_are_not_safe(self):
        for net, talk, seen in answers():
            self.assertEqual(seen is None, model_fault(net, talk) is not None)

    def test_just_the_rows_that_are_seen(self):
        for net, talk, seen in safe_answers():
            checked_talk(net, seen)
            self.assertEqual(seen[0], talk[0])
            groups = Groups(net, talk)
            met = [(0, first_group(net, talk))]
            for state, group in met:
                moves = dict(seen[1][state])
                behind = groups.behind(group)
                self.assertEqual(list(moves), list(behind))
                met += [pair for pair in ((moves[wire], behind[wire]) for wire in moves) if pair not in met]

    def test_what_is_seen_of_runs(self):
        pick = Picker(113)
        for net, talk, seen in safe_answers():
            for again in range(4):
                state = 0
                for wire in some_run(net, talk, pick):
                    if wire in seen_wires(net, talk):
                        state = dict(seen[1][state])[wire]

    def test_no_two_states_are_alike(self):
        for net, talk, seen in safe_answers():
            for one, other in combinations(range(len(seen[1])), 2):
                self.assertFalse(are_alike(seen, one, other))

    def test_the_numbers_and_the_order_of_the_moves(self):
        for net, talk, seen in safe_answers():
            places = wires_of(net).index
            for moves in seen[1]:
                order = [places(wire) for wire, behind in moves]
                self.assertEqual(order, sorted(order))
            came, rows = [], [((), 0)]
            for row, state in rows:
                if state not in came:
                    came.append(state)
                    rows += [(row + (wire,), behind) for wire, behind in seen[1][state]]
            self.assertEqual(came, list(range(len(seen[1]))))

    def test_each_row_is_one_of_the_talks(self):
        for net, talk, seen in safe_answers():
            met = [(0, 0)]
            for state, other in met:
                moves = dict(talk[1][other])
                for wire, behind in seen[1][state]:
                    self.assertIn(wire, moves)
                    if (behind, moves[wire]) not in met:
                        met.append((behind, moves[wire]))

    def test_each_row_is_seen_of_the_net_and_the_seen_talk(self):
        for net, talk, seen in safe_answers():
            self.assertIsNone(fault(net, seen))
            self.assertIsNotNone(paper(net, seen))
            self.assertIsNone(undone(net, seen))
            self.assertEqual(seen_talk(net, seen), seen)

    def test_rows_told_one_by_one(self):
        for net, talk, seen in safe_answers()[::5]:
            rows = [row for row, state in rows_of_talk(net, talk, 4)]
            told = {row for row, state in rows_of_talk(net, seen, 4)}
            self.assertLessEqual(told, set(rows))
            for row in rows[:60]:
                self.assertEqual(row in told, is_seen(net, talk, row))

    def test_all_of_the_talk_of_a_made_net(self):
        looked = 0
        for inputs, talk, start in made_samples():
            if not isinstance(model_net(inputs, talk, start), str) and keeps_its_outs(talk):
                made = net_of(inputs, talk, start)
                self.assertIsNone(undone(made, talk))
                self.assertLessEqual(len(seen_talk(made, talk)[1]), len(talk[1]))
                looked += 1
        self.assertGreater(looked, 100)


class Refusals(unittest.TestCase):
    def test_what_is_no_net(self):
        for thing in wrong_nets():
            self.assertIsInstance(refusal(seen_talk, thing, GOOD_TALK), NoNet)

    def test_what_is_no_talk(self):
        for thing in wrong_talks():
            self.assertIsInstance(refusal(seen_talk, TALK_NET, thing), NoTalk)

    def test_the_refusal_that_is_named_first(self):
        for thing in odd_things() + [list(TALK_NET), TALK_NET[:2], 1]:
            for talk in (None, Odd(), (), list(GOOD_TALK), ((), ())):
                self.assertIsInstance(refusal(seen_talk, thing, talk), NoNet)
        net, talk = walk_of(16)
        for thing in (None, Odd(), list(talk), talk[:1], (talk[0], talk[1] * 13), (talk[0], ((("g", True),),))):
            self.assertIsInstance(refusal(seen_talk, net, thing), NoTalk)


class NothingChangedOrKept(unittest.TestCase):
    def test_equal_things_give_equal_answers(self):
        for net, talk, seen in safe_answers()[::5]:
            other, same = copy.deepcopy([net, talk])
            self.assertEqual(seen_talk(other, same), seen)
            self.assertEqual([other, same], [net, talk])

    def test_what_is_handed_in_is_not_kept(self):
        things = copy.deepcopy(list(meeting()))
        before = [sys.getrefcount(thing) for thing in things]
        seen_talk(*things)
        self.assertEqual([sys.getrefcount(thing) for thing in things], before)


if __name__ == "__main__":
    unittest.main()
