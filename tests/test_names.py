"""Names are only names: with its wires named otherwise all is the same of a net and a talk, named so."""

import unittest

from anywait.errors import WaitError
from anywait.faults import fault, is_paper, paper
from anywait.goings import gone_on
from anywait.joining import joined
from anywait.making import clash, net_of, settings
from anywait.mending import held, mended
from anywait.needs import needed
from anywait.nets import waiting, wires
from anywait.seeing import seen_talk, undone
from anywait.stands import stand_behind, stands, steps
from anywait.talks import is_steady
from anywait.texts import net_text, read_net, read_talk, talk_text
from anywait.waits import pace, spoiling, timed
from tests.families import Picker, all_pairs, chain, meeting, rings, some_run, some_waits
from tests.made import made_samples
from tests.mend_model import model_points, put_on
from tests.model import model_gone_on, wires_of
from tests.renaming import OTHER_NAMES, named_otherwise, namings, told_otherwise
from tests.samples import nets, rows_of

MOST_RUN = 8


def answer(call, *things):
    """What is told, or the error that it is refused with."""
    try:
        return call(*things)
    except WaitError as error:
        return type(error)


def named_pairs(step, first=0):
    """Pairs of net and talk, each with other names, and the same with these."""
    for place, (net, talk) in enumerate(all_pairs()[first::step]):
        names = namings(net)[place % 4]
        yield net, talk, names, named_otherwise(net, names), named_otherwise(talk, names)


class ByHand(unittest.TestCase):
    def test_a_fault_and_meeting_points(self):
        net, talk = meeting(("same", "a"))
        names = {"a": "taken", "b": "c", "c": "a"}
        other, same = named_otherwise(net, names), named_otherwise(talk, names)
        self.assertEqual(other, (("taken", "c"), (("a", ("same", "taken")),), (False,) * 3))
        self.assertEqual(fault(other, same), ("unasked", ["taken", "a"]))
        self.assertEqual(mended(other, same), (("a", "c", True),))
        self.assertEqual(stands(other, same), stands(net, talk))

    def test_names_that_are_words_of_answers(self):
        net = (("end",), (("taken", ("same", "end")), ("stuck", ("same", "taken"))), (False,) * 3)
        talk = (("stuck",), ((("end", 1),), (("end", 0), ("stuck", 0))))
        self.assertEqual(fault(net, talk), ("taken", ["end", "end"], "taken"))
        free = ((), ((("end", 0),),))
        self.assertEqual(mended(net, free), (("taken", "end", False),))


class Families(unittest.TestCase):
    def test_the_same_fault(self):
        for net, talk, names, other, same in named_pairs(1):
            self.assertEqual(fault(other, same), told_otherwise(fault(net, talk), names))

    def test_the_stands_in_the_same_order(self):
        for net, talk, names, other, same in named_pairs(1):
            self.assertEqual(stands(other, same), stands(net, talk))
            self.assertEqual(paper(other, same), paper(net, talk))
            self.assertEqual(is_paper(other, same, stands(net, talk)), is_paper(net, talk, stands(net, talk)))
            for stand in stands(net, talk)[:20]:
                self.assertEqual(steps(other, same, stand), named_otherwise(steps(net, talk, stand), names))

    def test_the_same_meeting_points(self):
        for net, talk, names, other, same in named_pairs(3):
            self.assertEqual(answer(mended, other, same), named_otherwise(answer(mended, net, talk), names))

    def test_all_names_in_turn(self):
        for net, talk in [meeting(("same", "b")), chain(2), *rings()[::5]]:
            for names in namings(net):
                other, same = named_otherwise(net, names), named_otherwise(talk, names)
                self.assertEqual(fault(other, same), told_otherwise(fault(net, talk), names))
                self.assertEqual(stands(other, same), stands(net, talk))
                self.assertEqual(answer(mended, other, same), named_otherwise(answer(mended, net, talk), names))

    def test_points_put_on(self):
        pick = Picker(151)
        for net, talk, names, other, same in named_pairs(5):
            points = tuple(pick.one_of(model_points(net)) for again in range(2))
            if put_on(net, points) is not None:
                self.assertEqual(held(other, named_otherwise(points, names)), named_otherwise(held(net, points), names))

    def test_what_is_seen(self):
        for net, talk, names, other, same in named_pairs(1):
            self.assertEqual(answer(seen_talk, other, same), named_otherwise(answer(seen_talk, net, talk), names))
            self.assertEqual(undone(other, same), named_otherwise(undone(net, talk), names))

    def test_wires_and_waiting_gates(self):
        for net in nets()[::9]:
            for names in namings(net)[::2]:
                other = named_otherwise(net, names)
                self.assertEqual(wires(other), named_otherwise(wires(net), names))
                for row in rows_of(len(net[2]))[::5]:
                    self.assertEqual(waiting(other, row), named_otherwise(waiting(net, row), names))

    def test_runs(self):
        pick = Picker(153)
        for net, talk, names, other, same in named_pairs(3):
            one, further = some_run(net, talk, pick, MOST_RUN), some_run(net, talk, pick, MOST_RUN)
            self.assertEqual(stand_behind(other, same, named_otherwise(one, names)), stand_behind(net, talk, one))
            if model_gone_on(net, talk, one, further) is not None:
                told = gone_on(other, same, named_otherwise(one, names), named_otherwise(further, names))
                self.assertEqual(told, named_otherwise(gone_on(net, talk, one, further), names))
            self.assertEqual(is_steady(other, same), is_steady(net, talk))

    def test_waits(self):
        pick = Picker(155)
        for net, talk, names, other, same in named_pairs(3, 1):
            waits = some_waits(net, pick, 5)
            changes, word = timed(net, talk, waits, 12)
            self.assertEqual(timed(other, same, waits, 12), (named_otherwise(changes, names), word))
            self.assertEqual(pace(other, same, waits), pace(net, talk, waits))
            self.assertEqual(spoiling(other, same), named_otherwise(spoiling(net, talk), names))

    def test_needs(self):
        pick = Picker(157)
        for net, talk, names, other, same in named_pairs(3, 2):
            wire, number = pick.one_of(wires_of(net)), 1 + pick.below(3)
            self.assertEqual(needed(other, same, names[wire], number), needed(net, talk, wire, number))

    def test_making(self):
        for place, (inputs, talk, start) in enumerate(made_samples()[::2]):
            names = dict(zip(inputs + talk[0], OTHER_NAMES if place % 2 else reversed(inputs + talk[0])))
            things = named_otherwise((inputs, talk), names) + (start,)
            self.assertEqual(answer(settings, *things), answer(settings, inputs, talk, start))
            self.assertEqual(answer(clash, *things), answer(clash, inputs, talk, start))
            self.assertEqual(answer(net_of, *things), named_otherwise(answer(net_of, inputs, talk, start), names))

    def test_joining(self):
        pick = Picker(159)
        for place in range(400):
            one, other = pick.one_of(all_pairs())[0], pick.one_of(all_pairs())[0]
            every = sorted({*wires_of(one), *wires_of(other)})
            for names in (dict(zip(every, reversed(every))), dict(zip(every, every[2:] + every[:2]))):
                told = answer(joined, named_otherwise(one, names), named_otherwise(other, names))
                self.assertEqual(told, named_otherwise(answer(joined, one, other), names))

    def test_texts(self):
        for net, talk, names, other, same in named_pairs(3):
            self.assertEqual(read_net(net_text(other)), other)
            self.assertEqual(read_talk(other, talk_text(other, same)), same)
            lines = [line.split(" ") for line in net_text(net).split("\n")]
            signs = [" ".join(named_otherwise(line, with_brackets(names))) for line in lines]
            self.assertEqual(net_text(other), "\n".join(signs))


def with_brackets(names):
    """The names, and these as they stand at the ends of a table's wires too."""
    found = dict(names)
    for name, told in names.items():
        found.update({f"({name}": f"({told}", f"{name})": f"{told})", f"({name})": f"({told})"})
    return found


if __name__ == "__main__":
    unittest.main()
