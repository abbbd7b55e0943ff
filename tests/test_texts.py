import copy
import sys
import unittest

from anywait.errors import NoNet, NoText
from anywait.nets import checked
from anywait.texts import net_text, read_net
from tests.families import Picker, all_pairs, chain, great_pairs, meeting, ring
from tests.model import wires_of
from tests.renaming import OTHER_NAMES, named_otherwise
from tests.samples import (
    GOOD_NET, WORDS, Odd, deep_kind, full_net, nets, odd_things, refusal, rows_of, with_kind, wrong_names, wrong_nets,
)
from tests.text_model import model_net_text, model_read_net, other_lines, spoilt_once

WRITTEN = [
    (((), (("g", ("not", "g")),), (False,)), "gate g not g\nstart\n"),
    (((), (("g", ("same", "g")),), (True,)), "gate g same g\nstart g\n"),
    (meeting()[0], "input a b\ngate c both a b\nstart\n"),
    (
        GOOD_NET,
        "input a b\ngate c not a\ngate d and a c\ngate e both a b\ngate f or c\nstart b c e\n",
    ),
    (
        with_kind(("or", ("d", "c", "b", "a"))),
        "input a b\ngate c not a\ngate d or d c b a\ngate e both a b\ngate f or c\nstart b c e\n",
    ),
    (chain(2, True)[0], "input r k\ngate g held h off same r\ngate h held k off same g\nstart r k g h\n"),
    (
        (("a", "b"), (("c", ("table", ("b", "a"), ((False, True), (True, True)))),), (True, False, True)),
        "input a b\ngate c table (b a) 01 11\nstart a c\n",
    ),
    ((("a",), (("c", ("table", ("a",), ())),), (False, True)), "input a\ngate c table (a)\nstart c\n"),
    (
        (("a",), (("c", ("table", ("c",), ((False,), (True,)))),), (False, True)),
        "input a\ngate c table (c) 0 1\nstart c\n",
    ),
    (
        ((), (("g", ("held", ("held", ("held", ("table", ("h",), ((True,),)), "g", True), "h", False), "g", False)),
              ("h", ("held", ("and", ("g",)), "h", True))), (True, False)),
        "gate g held g off held h off held g on table (h) 1\ngate h held h on and g\nstart g\n",
    ),
    (
        (("abcdef", "inputs", "x"), (("ons", ("and", ("x", "ons", "abcdef", "inputs"))),), (True, True, False, True)),
        "input abcdef inputs x\ngate ons and x ons abcdef inputs\nstart abcdef inputs ons\n",
    ),
]


def sample_nets():
    """Nets of 0 to 3 inputs and 1 to 5 gates of all kinds."""
    found = nets()[::5] + [net for net, talk in all_pairs()[::40]] + [net for net, text in WRITTEN]
    return found + [GOOD_NET, full_net(), great_pairs()[0][0], ring((True, False) * 2)[0]]


class WorkedByHand(unittest.TestCase):
    def test_written(self):
        for net, text in WRITTEN:
            self.assertEqual(net_text(net), text)

    def test_read(self):
        for net, text in WRITTEN:
            self.assertEqual(read_net(text), net)

    def test_the_rows_of_a_great_table(self):
        names = ("a", "b", "c", "d", "e", "f", "g", "h")
        gates = tuple((name, ("table", names[::-1], rows_of(8))) for name in names[3:])
        net = (names[:3], gates, (False,) * 8)
        rows = " ".join(f"{number:08b}" for number in range(256))
        lines = "".join(f"gate {name} table (h g f e d c b a) {rows}\n" for name in "defgh")
        text = f"input a b c\n{lines}start\n"
        self.assertEqual(net_text(net), text)
        self.assertEqual(read_net(text), net)


class WrittenAndReadBack(unittest.TestCase):
    def test_nets_of_all_sizes_and_kinds(self):
        for net in nets() + [GOOD_NET, full_net()]:
            text = net_text(net)
            self.assertEqual(text, model_net_text(net))
            self.assertEqual(read_net(text), net)
            self.assertEqual(net_text(read_net(text)), text)

    def test_nets_of_the_families(self):
        for net, talk in all_pairs():
            self.assertEqual(net_text(net), model_net_text(net))
            self.assertEqual(checked(read_net(net_text(net))), net)

    def test_nets_named_otherwise(self):
        for net in nets()[::7]:
            other = named_otherwise(net, dict(zip(wires_of(net), OTHER_NAMES)))
            self.assertEqual(read_net(net_text(other)), other)

    def test_unlike_nets_are_written_unlike(self):
        found = set(nets()) | {net for net, talk in all_pairs()}
        self.assertEqual(len({net_text(net) for net in found}), len(found))

    def test_the_form(self):
        for net in sample_nets():
            self.assertIs(type(net_text(net)), str)
            inputs, gates, start = read_net(net_text(net))
            self.assertEqual({type(value) for value in start}, {bool})
            self.assertEqual({type(part) for part in (inputs, gates, start, *gates)}, {tuple})


class Spoilt(unittest.TestCase):
    def look(self, text):
        """Whether this is a text of a net."""
        expected = model_read_net(text)
        if expected is None:
            self.assertIsInstance(refusal(read_net, text), NoText, repr(text))
            return False
        self.assertEqual(read_net(text), expected, repr(text))
        self.assertEqual(net_text(expected), text)
        return True

    def test_signs_and_stretches(self):
        pick = Picker(131)
        numbers = [0, 0]
        for net in sample_nets():
            text = net_text(net)
            for again in range(40 if len(text) < 1000 else 4):
                numbers[self.look(spoilt_once(text, pick))] += 1
                numbers[self.look(spoilt_once(spoilt_once(text, pick), pick))] += 1
        self.assertGreater(min(numbers), 100)

    def test_each_sign_taken_out_or_exchanged(self):
        for net, text in WRITTEN:
            for place in range(len(text)):
                self.look(text[:place] + text[place + 1:])
                for sign in "ab 01()\n>-A\t\r\u00e9":
                    self.look(text[:place] + sign + text[place + 1:])
                    self.look(text[:place] + sign + text[place:])

    def test_each_stretch_left_out_turned_about_or_told_twice(self):
        for net, text in WRITTEN[2:8]:
            for start in range(len(text)):
                for end in range(start + 1, len(text) + 1):
                    head, stretch, tail = text[:start], text[start:end], text[end:]
                    self.look(head + tail)
                    self.look(head + stretch[::-1] + tail)
                    self.look(head + stretch * 2 + tail)

    def test_other_lines(self):
        pick = Picker(133)
        for net in sample_nets():
            for text in other_lines(net_text(net), pick):
                self.look(text)

    def test_words_exchanged(self):
        pick = Picker(135)
        more = list(WORDS) + ["x", "", "01", "0", "1", "(a", "b)", "()", "(", ")", "q", "in", "held b on", "\n", ">"]
        for net in sample_nets()[::2]:
            words = net_text(net).split(" ")
            for again in range(20):
                place = pick.below(len(words))
                for word in (pick.one_of(more), pick.one_of(words)):
                    self.look(" ".join(words[:place] + [word] + words[place + 1:]))
                    self.look(" ".join(words[:place] + [word] + words[place:]))

    def test_by_hand(self):
        wrong = [
            "", "\n", " ", "start\n", "gate g not g\n", "gate g not g\nstart", "gate g not g\nstart \n", "input\n",
            "input \ngate g not g\nstart\n", "input\ngate g not g\nstart\n", "gate g not g\n\nstart\n",
            "gate g\nstart\n", "\ngate g not g\nstart\n", "gate g not g\nstart\n\n", "gate g not g\nstart\nstart\n",
            "gate\nstart\n", "start\ngate g not g\n", "gate g not g\nstart g g\n", "gate g not g\nstart h\n",
            " gate g not g\nstart\n", "gate g not  g\nstart\n", "gate g not g \nstart\n", "gate g not\nstart\n",
            "gate g not g g\nstart\n", "gate g no g\nstart\n", "gate g not h\nstart\n", "gate g g not\nstart\n",
            "gate gate not gate\nstart\n", "gate g Not g\nstart\n", "gate G not G\nstart\n", "gate g not g\nSTART\n",
            "gate g not g\r\nstart\r\n", "gate g and\nstart\n", "gate g and g g\nstart\n", "gate g both g\nstart\n",
            "gate g both g g\nstart\n", "gate g and (g)\nstart\n", "gate g same (g)\nstart\n",
            "gate g and g,g\nstart\n", "input g\ngate g not g\nstart\n", "gate h not g\nstart\n",
            "input a a\ngate g not g\nstart\n", "input a b c d\ngate g not g\nstart\n",
            "gate g not g\ngate g not g\nstart\n", "gate g not g\nstart g\ngate h not g\n", "gate g not g start\n",
            "input a\ninput b\ngate g not g\nstart\n", "gate g not g\ninput a\nstart\n",
            "input b\ngate a not b\nstart a b\n", "gate abcdefg not abcdefg\nstart\n", "out\nstate\n",
            "gate g not g\nstart\nout\nstate\n", "gate  not \nstart\n", "gate g not g\ngate h not h\nstart h g\n",
            "gate g not g\tstart\n", "gate g not g\nstart\n\0", "#\nstart\n",
        ]
        for text in wrong:
            self.assertIsInstance(refusal(read_net, text), NoText, repr(text))
            self.assertFalse(self.look(text))

    def test_tables_and_held_by_hand(self):
        def text(kind):
            return f"input a b\ngate g {kind}\nstart\n"

        for kind in (
            "table (a b) 00 01 10 11", "table (a b)", "table (g) 0 1", "table (b a g) 000 111", "held a on table (a) 0",
            "held a on held b off held g on and a b g", "held a off same a",
        ):
            self.assertTrue(self.look(text(kind)), kind)
        for kind in (
            "table", "table ", "table ()", "table () ", "table (a b", "table a b) 01", "table a b 01", "table (a b)01",
            "table(a b) 01", "table ( a b ) 01", "table (a b ) 01", "table ( a b) 01", "table (a  b) 01",
            "table (a,b) 01", "table (ab) 01", "table (a b) 0 1", "table (a b) 0", "table (a b) 011",
            "table (a b) 01 01", "table (a b) 10 01", "table (a b)  01", "table (a b) 01 ", "table (a b) 02",
            "table (a b) 0a", "table (a b) ab", "table (a b) 01,10", "table (a b) (01)", "table (a b)) 01",
            "table ((a b)) 01", "table (a b) 01)", "table (a a) 00", "table (c) 0", "table [a b] 01",
            "table (a b) on off", "table (a b) TrueFalse", "table (b) 0 1 0", "Table (a b) 01", "table (a b) 0\u0661",
            "table (a b)\n01", "table (b)a) 01", "table ) 01", "table (a b) \u0660\u0661", "table", "held", "held a",
            "held a on", "held a on same", "held on a same b", "held a same b on", "held same b a on",
            "held a On same b", "held a 1 same b", "held a True same b", "held a on  same b", "held c on same b",
            "held a on held b on held g on held a on same b", "held a on same b same b", "held (a) on same b",
            "held a on held b on same c", "held on on same b", "held a onn same b", "held a of same b",
            "held a on (same b)", "held a on held", "held a on held b on", "held a off held b off held a off held",
            "held a  same b",
        ):
            self.assertIsInstance(refusal(read_net, text(kind)), NoText, kind)
            self.assertFalse(self.look(text(kind)))

    def test_names(self):
        for name in [name for name in wrong_names() if name != "a b"]:
            for form in ("gate {0} not {0}\nstart\n", "input {0}\ngate g not g\nstart\n", "gate g same {0}\nstart\n"):
                self.assertIsInstance(refusal(read_net, form.format(name)), NoText)
            self.assertIsInstance(refusal(read_net, f"gate g not g\nstart {name}\n"), NoText)

    def test_how_many(self):
        def text(inputs, gates):
            names = ("a", "b", "c", "d", "e", "f", "g", "h", "i", "j", "k")
            lines = ["input " + " ".join(names[:inputs])] if inputs else []
            lines += [f"gate {name} not {name}" for name in names[-gates:]] if gates else []
            return "\n".join(lines + ["start"]) + "\n"

        for inputs in range(6):
            for gates in range(7):
                self.assertEqual(self.look(text(inputs, gates)), inputs <= 3 and 1 <= gates <= 5, (inputs, gates))

    def test_long_texts(self):
        for text in (
            "gate g " + "held g on " * 100000 + "not g\nstart\n", "gate g not g\n" * 20000 + "start\n", " " * 100000,
            "gate g and" + " g" * 100000 + "\nstart\n", "gate g table (g)" + " 0" * 100000 + "\nstart\n", "\n" * 100000,
            "input" + " a" * 50000 + "\ngate g not g\nstart\n", "gate g not g\nstart" + " g" * 100000 + "\n",
            "(" * 100000, "gate g table " + "(" * 50000 + "g" + ")" * 50000 + "\nstart\n",
            "gate g not " + "g" * 100000 + "\nstart\n",
        ):
            self.assertIsInstance(refusal(read_net, text), NoText)


class Refusals(unittest.TestCase):
    def test_what_is_no_net(self):
        for thing in wrong_nets():
            self.assertIsInstance(refusal(net_text, thing), NoNet)
        self.assertIsInstance(refusal(net_text, with_kind(deep_kind(4))), NoNet)

    def test_what_is_no_text(self):
        text = net_text(GOOD_NET)
        wrong = [
            text.encode(), bytearray(text.encode()), [text], (text,), {text: text}, list(text), text.splitlines(),
            GOOD_NET, 0, 1, True, False, None, iter(text), {text}, Odd, str,
        ]
        for thing in wrong + odd_things():
            self.assertIsInstance(refusal(read_net, thing), NoText)


class NothingChangedOrKept(unittest.TestCase):
    def test_equal_things_give_equal_answers(self):
        for net in sample_nets():
            other = copy.deepcopy([net])[0]
            self.assertEqual(net_text(other), net_text(net))
            self.assertEqual(other, net)
            text = net_text(net)
            self.assertEqual(read_net("".join(list(text))), read_net(text))

    def test_what_is_handed_in_is_not_kept(self):
        net = copy.deepcopy([GOOD_NET])[0]
        text = "".join(list(net_text(net)))
        before = [sys.getrefcount(thing) for thing in (net, text)]
        net_text(net)
        read_net(text)
        self.assertEqual([sys.getrefcount(thing) for thing in (net, text)], before)


if __name__ == "__main__":
    unittest.main()
