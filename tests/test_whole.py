"""What the document promises over the whole program."""

import copy
import inspect
import sys
import unittest
from importlib import import_module
from itertools import combinations, product
from pathlib import Path

from anywait.errors import WaitError
from anywait.faults import is_paper
from anywait.goings import gone_on
from tests.families import GATES, chain, meeting, ring
from tests.interface import CALLS, good_parts, is_good, spoilt
from tests.samples import Odd, odd_things, refusal

TALK = (("c",), (
    (("a", 1), ("b", 2)), (("b", 3),), (("a", 3),), (("c", 4),),
    (("a", 5), ("b", 6)), (("b", 7),), (("a", 7),), (("c", 0),),
))
MEET = (meeting()[0], TALK)
TABLE = ("table", ("a", "b"), ((False, True), (True, True)))
RICH = ((("a", "b"), (("c", ("held", TABLE, "b", True)),), (False,) * 3), TALK)
NAMES = {
    "nets": {"checked": "net", "wires": "net", "waiting": "net setting"},
    "talks": {"checked_talk": "net talk", "is_steady": "net talk"},
    "stands": {"steps": "net talk stand", "stands": "net talk", "stand_behind": "net talk run"},
    "faults": {"fault": "net talk", "paper": "net talk", "is_paper": "net talk thing"},
    "goings": {"gone_on": "net talk one other"},
    "waits": {"timed": "net talk waits number", "spoiling": "net talk", "pace": "net talk waits"},
    "needs": {"needed": "net talk wire number"},
    "making": {"settings": "inputs talk start", "clash": "inputs talk start", "net_of": "inputs talk start"},
    "mending": {"held": "net points", "mended": "net talk"},
    "joining": {"joined": "one other"},
    "seeing": {"seen_talk": "net talk", "undone": "net talk"},
    "texts": {"net_text": "net", "read_net": "text", "talk_text": "net talk", "read_talk": "net text"},
}


def pairs():
    return [MEET, (meeting(value=True)[0], TALK), RICH]


def calls_with(net, talk):
    """Each function with things that it is given for its parts."""
    parts = good_parts(net, talk)
    return [(call, tuple(parts[name] for name, error in slots)) for call, slots in CALLS]


def some_wrong(name, error, parts):
    """Some things that are refused in the place of a part, or, where none are, things of any kind."""
    found = [None, [], Odd(), "", -1, True, 1.5, {}, ("q",), [None], (None, None), "q", 10 ** 30, ((), (), ())]
    if error is None:
        return found
    found += list(spoilt(parts[name]))[::41]
    return [thing for thing in found if not is_good(name, thing, parts)]


def lists_in(thing):
    found = [thing] if isinstance(thing, list) else []
    for part in thing if isinstance(thing, (tuple, list)) else ():
        found += lists_in(part)
    return found


class Names(unittest.TestCase):
    def test_everything_is_there_under_its_name(self):
        for module, functions in NAMES.items():
            for name, arguments in functions.items():
                call = vars(import_module(f"anywait.{module}"))[name]
                self.assertEqual(list(inspect.signature(call).parameters), arguments.split())
                self.assertIn(call, [known for known, slots in CALLS])
        self.assertEqual(sum(len(functions) for functions in NAMES.values()), len(CALLS))
        files = {path.stem for path in Path(import_module("anywait").__file__).parent.glob("*.py")}
        self.assertEqual(files, {*NAMES, "errors", "__init__"})


class Refusals(unittest.TestCase):
    def test_what_is_let_by(self):
        for net, talk in pairs():
            for call, things in calls_with(net, talk):
                self.assertIsNone(refusal(call, *things), call)

    def test_each_part_spoilt_in_each_place(self):
        numbers = {}
        for net, talk in pairs():
            parts = good_parts(net, talk)
            for name in sorted({name for call, slots in CALLS for name, error in slots if error}):
                for thing in spoilt(parts[name]):
                    good = is_good(name, thing, parts)
                    numbers[name, good] = numbers.get((name, good), 0) + 1
                    self.look_at(name, thing, good, parts)
        for key, number in numbers.items():
            if not key[1]:
                self.assertGreater(number, 10, key)

    def look_at(self, name, thing, good, parts):
        """Whether a thing in one place is refused, or let by, by all that take it."""
        for call, slots in CALLS:
            for place, (other, error) in enumerate(slots):
                if other == name and not (good and name in ("net", "other net", "talk")):
                    things = [parts[slot] for slot, its_error in slots]
                    things[place] = thing
                    found = refusal(call, *things)
                    if not good:
                        self.assertIs(type(found), error, (call, thing))
                    elif found is not None:
                        self.assertNotEqual(type(found), error, (call, thing))

    def test_things_of_any_kind(self):
        for call, things in calls_with(*MEET):
            slots = dict(CALLS)[call]
            for place, (name, error) in enumerate(slots):
                for odd in odd_things() if error else ():
                    if not is_good(name, odd, good_parts(*MEET)):
                        self.assertIs(type(refusal(call, *things[:place], odd, *things[place + 1:])), error)

    def test_two_at_once(self):
        parts = good_parts(*RICH)
        wrong = {name: some_wrong(name, error, parts) for call, slots in CALLS for name, error in slots}
        for call, slots in CALLS:
            for one, other in combinations(range(len(slots)), 2):
                for first, second in product(wrong[slots[one][0]], wrong[slots[other][0]]):
                    things = [parts[name] for name, error in slots]
                    things[one], things[other] = first, second
                    self.assertIs(type(refusal(call, *things)), slots[one][1], (call, one, other))

    def test_all_at_once(self):
        for call, slots in CALLS:
            for thing in (None, Odd(), -1, [None]):
                self.assertIs(type(refusal(call, *[thing] * len(slots))), slots[0][1])

    def test_true_and_false_are_no_numbers(self):
        for call, things in calls_with(*MEET):
            for place, (name, error) in enumerate(dict(CALLS)[call]):
                if name in ("changes", "so-manieth"):
                    for value in (True, False):
                        self.assertIs(type(refusal(call, *things[:place], value, *things[place + 1:])), error)
                if name == "waits":
                    for row in ((True, 1, 1), (1, True, 1), (1, 1, True)):
                        self.assertIs(type(refusal(call, *things[:place], row, *things[place + 1:])), error)

    def test_numbers_are_no_true_and_false(self):
        for call, things in calls_with(*MEET):
            for place, (name, error) in enumerate(dict(CALLS)[call]):
                if name in ("setting", "made start"):
                    for row in ((1, 0, 1), (True, False, 0), (0, False, False)):
                        self.assertIs(type(refusal(call, *things[:place], row, *things[place + 1:])), error)
        net, talk = MEET
        known = good_parts(net, talk)["paper"]
        self.assertTrue(is_paper(net, talk, known))
        odd = [(setting, bool(state) if state < 2 else state) for setting, state in known]
        self.assertFalse(is_paper(net, talk, odd))
        self.assertFalse(is_paper(net, talk, [(tuple(map(int, setting)), state) for setting, state in known]))

    def test_each_refusal_is_a_value_error(self):
        for call, slots in CALLS:
            found = refusal(call, *[None] * len(slots))
            self.assertIsInstance(found, WaitError)
            self.assertIsInstance(found, ValueError)


class NothingChangedOrKept(unittest.TestCase):
    def sources(self):
        return pairs() + [chain(1), ring((True, False), GATES[:2])]

    def calls(self):
        found = [pair for net, talk in pairs() for pair in calls_with(net, talk)]
        for net, talk in self.sources():
            for call, slots in CALLS:
                if [name for name, error in slots] == ["net", "talk"] or len(slots) == 1 and slots[0][0] == "net":
                    found.append((call, (net, talk)[:len(slots)]))
        return found

    def test_what_is_handed_in_is_not_changed(self):
        for call, things in self.calls():
            before = copy.deepcopy(things)
            call(*things)
            self.assertEqual(things, before)

    def test_equal_things_give_equal_answers(self):
        for call, things in self.calls():
            answer = call(*things)
            self.assertEqual(call(*things), answer)
            self.assertEqual(call(*copy.deepcopy(things)), answer)
            others = [tuple(list(thing)) if isinstance(thing, tuple) else thing for thing in things]
            self.assertEqual(call(*others), answer)

    def test_lists_are_new_ones_each_time(self):
        for call, things in self.calls():
            first, second = call(*things), call(*things)
            known = copy.deepcopy(first)
            given = lists_in(things)
            for one in lists_in(first):
                self.assertFalse(any(one is other for other in lists_in(second) + given))
                one.append("more")
            self.assertEqual(call(*things), known)
            self.assertEqual(second, known)

    def test_a_run_that_is_told_is_not_the_one_that_was_handed_in(self):
        net, talk = MEET
        other = ["a", "b", "c"]
        told = gone_on(net, talk, [], other)
        self.assertEqual(told, other)
        self.assertIsNot(told, other)

    def test_what_is_handed_in_is_not_kept(self):
        for call, things in self.calls():
            looked = [thing for thing in things if isinstance(thing, (tuple, list))]
            before = [sys.getrefcount(thing) for thing in looked]
            call(*things)
            self.assertEqual([sys.getrefcount(thing) for thing in looked], before, call)

    def test_a_refusal_changes_nothing(self):
        for call, things in calls_with(*MEET):
            answer = call(*things)
            for place, (name, error) in enumerate(dict(CALLS)[call]):
                if error:
                    self.assertIs(type(refusal(call, *things[:place], Odd(), *things[place + 1:])), error)
            self.assertEqual(call(*things), answer)


if __name__ == "__main__":
    unittest.main()
