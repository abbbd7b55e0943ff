import copy
import sys
import unittest

from anywait.errors import NoNet, NoTalk
from anywait.faults import fault
from anywait.waits import spoiling, timed
from tests.families import all_pairs, chain, chains, great_pairs, meeting, meetings_with_more, ring
from tests.model import wires_of
from tests.samples import GOOD_TALK, TALK_NET, Odd, refusal, wrong_nets, wrong_talks
from tests.wait_model import model_spoiling, steps_along

STILL = (("a", "b"), (("g", ("same", "g")),), (False,) * 3)
CROSS = (("x", ("not", "y")), ("y", ("not", "x")))


def row(text):
    """A row written as a wire and a wait each."""
    parts = text.split()
    return list(zip(parts[::2], map(int, parts[1::2])))


def waits_once(net, talk, told):
    free = steps_along(net, talk, [wire for wire, wait in told])
    found = [sum(1 for names in free if wire in names) for wire, wait in told]
    return found == [wait for wire, wait in told]


class WorkedByHand(unittest.TestCase):
    def check(self, net, talk, found, text):
        self.assertEqual(fault(net, talk), found)
        self.assertEqual(spoiling(net, talk), row(text))

    def test_unasked(self):
        net, talk = meeting(("or", ("a", "b")))
        self.check(net, talk, ("unasked", list("ac")), "a 1 c 1")
        net, talk = meeting(("and", ("a", "b")))
        self.check(net, talk, ("unasked", list("abcac")), "a 1 b 2 c 1 a 1 c 1")
        net, talk = meeting(("same", "b"))
        self.check(net, talk, ("unasked", list("bc")), "b 1 c 1")

    def test_unasked_at_once(self):
        net = ((), (("g", ("not", "g")),), (False,))
        self.check(net, (("g",), ((),)), ("unasked", ["g"]), "g 1")
        self.check(net, (("g",), ((("g", 1),), ())), ("unasked", ["g", "g"]), "g 1 g 1")

    def test_a_gate_that_waits_from_the_beginning_on(self):
        net = (("a",), (("g", ("not", "g")),), (False, False))
        talk = (("g",), ((("a", 1), ("g", 2)), (("a", 2), ("g", 2)), ()))
        self.check(net, talk, ("unasked", ["g", "g"]), "g 1 g 1")
        late = (("g",), ((("a", 1), ("g", 0)), (("a", 2), ("g", 0)), ()))
        self.check(net, late, ("unasked", ["a", "a", "g"]), "a 1 a 1 g 3")

    def test_stuck(self):
        self.check(STILL, (("g",), ((("g", 0),),)), ("stuck", []), "")
        self.check(STILL, (("g",), ((("a", 1),), (("a", 2),), (("g", 0),))), ("stuck", ["a", "a"]), "a 1 a 1")
        net, talk = meeting(("table", ("a", "b"), ()))
        self.check(net, talk, ("stuck", ["a", "b"]), "a 1 b 2")

    def test_an_input_that_its_state_does_not_have_for_a_while(self):
        dropped = (("g",), ((("a", 1), ("b", 3)), (("a", 2),), (("b", 4),), (), (("g", 0),)))
        self.check(STILL, dropped, ("stuck", list("aab")), "a 1 a 1 b 1")
        kept = (("g",), ((("a", 1), ("b", 3)), (("a", 2), ("b", 3)), (("b", 4),), (), (("g", 0),)))
        self.check(STILL, kept, ("stuck", list("aab")), "a 1 a 1 b 3")
        late = (("g",), ((("a", 1),), (("a", 2), ("b", 3)), (("b", 4),), (), (("g", 0),)))
        self.check(STILL, late, ("stuck", list("aab")), "a 1 a 1 b 2")

    def test_taken(self):
        net, talk = meeting(("not", "a"))
        self.check(net, talk, ("taken", ["a"], "c"), "a 1")
        self.check(((), CROSS, (False, False)), ((), ((),)), ("taken", ["x"], "y"), "x 1")
        follows = (("a",), (("g", ("same", "a")),), (False, False))
        self.check(follows, ((), ((("a", 0),),)), ("taken", ["a", "a"], "g"), "a 1 a 1")
        net, talk = meetings_with_more()[0]
        self.check(net, talk, ("taken", list("abcabc"), "d"), "a 1 b 2 c 1 a 1 b 2 c 1")

    def test_none_where_there_is_no_fault(self):
        for net, talk in [meeting(), *chains(), *meetings_with_more()[1:], ring((True, False, False))]:
            self.assertIsNone(spoiling(net, talk))


class AllPairs(unittest.TestCase):
    def test_the_row_is_told(self):
        words = []
        for net, talk in all_pairs() + great_pairs():
            self.assertEqual(spoiling(net, talk), model_spoiling(net, talk), (net, talk))
            words.append((fault(net, talk) or (None,))[0])
        for word in ("stuck", "unasked", "taken", None):
            self.assertGreater(words.count(word), 40, word)

    def test_rows_of_many_waits_are_there(self):
        found = [spoiling(net, talk) or [] for net, talk in all_pairs()]
        self.assertGreater(sum(1 for told in found if len(told) > 3), 20)
        self.assertGreater(sum(1 for told in found if max((wait for wire, wait in told), default=0) > 1), 40)

    def test_the_form_of_a_row(self):
        for net, talk in all_pairs():
            told = spoiling(net, talk)
            if told is None:
                self.assertIsNone(fault(net, talk))
                continue
            self.assertIsInstance(told, list)
            self.assertEqual([wire for wire, wait in told], fault(net, talk)[1])
            for place, part in enumerate(told):
                self.assertIsInstance(part, tuple)
                self.assertIs(type(part[1]), int)
                self.assertTrue(1 <= part[1] <= place + 1)

    def test_a_net_that_goes_by_the_row_comes_to_its_fault(self):
        """Where each wire of the row is a step only until it changes, and all others wait long."""
        looked = 0
        for net, talk in all_pairs():
            told = spoiling(net, talk)
            if told and waits_once(net, talk, told):
                waits = tuple(dict(told).get(name, 99) for name in wires_of(net))
                changes, word = timed(net, talk, waits, len(told))
                self.assertEqual(changes, [(place, wire) for place, (wire, wait) in enumerate(told, 1)], (net, talk))
                self.assertEqual(word == "unasked", fault(net, talk)[0] == "unasked")
                looked += 1
        self.assertGreater(looked, 100)


class Refusals(unittest.TestCase):
    def test_what_is_no_net(self):
        for place, thing in enumerate(wrong_nets()):
            for talk in (GOOD_TALK, None):
                self.assertIsInstance(refusal(spoiling, thing, talk), NoNet, place)

    def test_what_is_no_talk(self):
        for place, thing in enumerate(wrong_talks()):
            self.assertIsInstance(refusal(spoiling, TALK_NET, thing), NoTalk, place)
            self.assertIsInstance(refusal(spoiling, list(TALK_NET), thing), NoNet, place)
        self.assertIsInstance(refusal(spoiling, TALK_NET, Odd()), NoTalk)


class NothingChangedOrKept(unittest.TestCase):
    def test_lists_are_new_ones_each_time(self):
        for net, talk in all_pairs()[::4]:
            told = spoiling(net, talk)
            if told is not None:
                kept = copy.deepcopy(told)
                told.append("other")
                self.assertEqual(spoiling(net, talk), kept)

    def test_equal_things_give_equal_answers(self):
        for net, talk in all_pairs()[::25]:
            other = copy.deepcopy([[net], [talk]])
            self.assertEqual(spoiling(other[0][0], other[1][0]), spoiling(net, talk))

    def test_what_is_handed_in_is_not_kept(self):
        for net, talk in (chain(2), meeting(("or", ("a", "b")))):
            before = (sys.getrefcount(net), sys.getrefcount(net[2]), sys.getrefcount(talk))
            spoiling(net, talk)
            self.assertEqual((sys.getrefcount(net), sys.getrefcount(net[2]), sys.getrefcount(talk)), before)


if __name__ == "__main__":
    unittest.main()
