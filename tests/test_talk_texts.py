import copy
import sys
import unittest

from anywait.errors import NoNet, NoTalk, NoText
from anywait.talks import checked_talk
from anywait.texts import net_text, read_talk, talk_text
from tests.families import Picker, all_pairs, chain, great_pairs, meeting, ring
from tests.made import made_samples
from tests.samples import (
    GOOD_TALK, TALK_NET, WORDS, Odd, odd_things, refusal, talks, wrong_names, wrong_nets, wrong_talks,
)
from tests.text_model import model_read_talk, model_talk_text, other_lines, spoilt_once

AROUND = ((), tuple((("a", (place + 1) % 12), ("b", place)) for place in range(12)))
WRITTEN = [
    (TALK_NET, ((), ((),)), "out\nstate\n"),
    (TALK_NET, ((), ((), ())), "out\nstate\nstate\n"),
    (TALK_NET, (("e", "c"), ((),)), "out e c\nstate\n"),
    (TALK_NET, GOOD_TALK, "out d c\nstate a>1 d>2\nstate d>1 b>0 a>2\nstate\n"),
    (*meeting(), "out c\nstate a>1 b>2\nstate b>3\nstate a>3\nstate c>0\n"),
    (*chain(1), "out g\nstate r>1\nstate g>2\nstate r>3 k>0\nstate k>1\n"),
    (*ring((True, False), ("h", "g")), "out h g\nstate h>0 g>0\n"),
    (TALK_NET, AROUND, (
        "out\nstate a>1 b>0\nstate a>2 b>1\nstate a>3 b>2\nstate a>4 b>3\nstate a>5 b>4\nstate a>6 b>5\nstate a>7 b>6\n"
        "state a>8 b>7\nstate a>9 b>8\nstate a>10 b>9\nstate a>11 b>10\nstate a>0 b>11\n"
    )),
]


def sample_pairs():
    found = [(net, talk) for net, talk, text in WRITTEN] + [(TALK_NET, talk) for talk in talks()] + great_pairs()
    return found + all_pairs()[::12]


def made_pairs():
    """Talks of 1 to 12 states, each for a net with its inputs and outs."""
    return [
        ((inputs, tuple((name, ("same", name)) for name in talk[0]), start), talk)
        for inputs, talk, start in made_samples()
    ]


class WorkedByHand(unittest.TestCase):
    def test_written(self):
        for net, talk, text in WRITTEN:
            self.assertEqual(talk_text(net, talk), text)

    def test_read(self):
        for net, talk, text in WRITTEN:
            self.assertEqual(read_talk(net, text), talk)

    def test_for_another_net(self):
        text = "out c\nstate a>0 c>0\n"
        self.assertEqual(read_talk(TALK_NET, text), (("c",), ((("a", 0), ("c", 0)),)))
        self.assertEqual(read_talk(meeting()[0], text), (("c",), ((("a", 0), ("c", 0)),)))
        self.assertIsInstance(refusal(read_talk, chain(1)[0], text), NoText)
        turned = (("c",), (("a", ("not", "c")),), (False, False))
        self.assertIsInstance(refusal(read_talk, turned, text), NoText)
        self.assertEqual(read_talk(turned, "out a\nstate a>0 c>0\n"), (("a",), ((("a", 0), ("c", 0)),)))


class WrittenAndReadBack(unittest.TestCase):
    def test_talks_of_the_families(self):
        for net, talk in all_pairs() + great_pairs() + made_pairs():
            text = talk_text(net, talk)
            self.assertEqual(text, model_talk_text(talk))
            self.assertEqual(read_talk(net, text), talk)
            self.assertEqual(talk_text(net, read_talk(net, text)), text)

    def test_talks_of_all_forms(self):
        for talk in talks():
            self.assertEqual(talk_text(TALK_NET, talk), model_talk_text(talk))
            self.assertEqual(checked_talk(TALK_NET, read_talk(TALK_NET, talk_text(TALK_NET, talk))), talk)

    def test_unlike_talks_are_written_unlike(self):
        found = {(net, talk) for net, talk in all_pairs() + made_pairs()}
        self.assertEqual(len({(net, talk_text(net, talk)) for net, talk in found}), len(found))

    def test_the_form(self):
        for net, talk in sample_pairs():
            self.assertIs(type(talk_text(net, talk)), str)
            outs, states = read_talk(net, talk_text(net, talk))
            self.assertEqual({type(part) for part in (outs, states, *states)}, {tuple})
            self.assertLessEqual({(type(wire), type(state)) for moves in states for wire, state in moves}, {(str, int)})


class Spoilt(unittest.TestCase):
    def look(self, net, text):
        """Whether this is a text of a talk for the net."""
        expected = model_read_talk(net, text)
        if expected is None:
            self.assertIsInstance(refusal(read_talk, net, text), NoText, repr(text))
            return False
        self.assertEqual(read_talk(net, text), expected, repr(text))
        self.assertEqual(talk_text(net, expected), text)
        return True

    def test_signs_and_stretches(self):
        pick = Picker(141)
        numbers = [0, 0]
        for net, talk in sample_pairs():
            text = talk_text(net, talk)
            for again in range(50):
                numbers[self.look(net, spoilt_once(text, pick))] += 1
                numbers[self.look(net, spoilt_once(spoilt_once(text, pick), pick))] += 1
        self.assertGreater(min(numbers), 100)

    def test_each_sign_taken_out_or_exchanged(self):
        for net, talk, text in WRITTEN:
            for place in range(len(text)):
                self.look(net, text[:place] + text[place + 1:])
                for sign in "abcd 0129>\n-+_A\t\r\u00b2\u0661":
                    self.look(net, text[:place] + sign + text[place + 1:])
                    self.look(net, text[:place] + sign + text[place:])

    def test_each_stretch_left_out_turned_about_or_told_twice(self):
        for net, talk, text in WRITTEN[:7]:
            for start in range(len(text)):
                for end in range(start + 1, len(text) + 1):
                    head, stretch, tail = text[:start], text[start:end], text[end:]
                    self.look(net, head + tail)
                    self.look(net, head + stretch[::-1] + tail)
                    self.look(net, head + stretch * 2 + tail)

    def test_other_lines(self):
        pick = Picker(143)
        for net, talk in sample_pairs():
            for text in other_lines(talk_text(net, talk), pick):
                self.look(net, text)

    def test_words_exchanged(self):
        pick = Picker(145)
        more = list(WORDS) + ["x", "", "a>", ">0", "a>0>0", "a>00", "a>1", "b>11", "c>0", "a0", "0>a", ">", "a=0"]
        for net, talk in sample_pairs()[::2]:
            words = talk_text(net, talk).split(" ")
            for again in range(20):
                place = pick.below(len(words))
                for word in (pick.one_of(more), pick.one_of(words)):
                    self.look(net, " ".join(words[:place] + [word] + words[place + 1:]))
                    self.look(net, " ".join(words[:place] + [word] + words[place:]))

    def test_by_hand(self):
        wrong = [
            "", "\n", "out\n", "state\n", "out", "out\nstate", "out \nstate\n", "out\nstate \n", "out\n\nstate\n",
            "\nout\nstate\n", "out\nstate\n\n", "state\nout\n", "out\nout\nstate\n", "out\nstate\nout\n",
            " out\nstate\n", "out c\nout d\nstate\n", "outs\nstate\n", "out\nstates\n", "Out\nstate\n", "out\nSTATE\n",
            "out state\n", "out a\nstate\n", "out x\nstate\n", "out c c\nstate\n", "out c  d\nstate\n",
            "out c,d\nstate\n", "out (c)\nstate\n", "out\nstate a\n", "out\nstate a>\n", "out\nstate >0\n",
            "out\nstate >\n", "out\nstate a>1\n", "out\nstate a>-1\n", "out\nstate a>00\n", "out\nstate a>+0\n",
            "out\nstate a>0 a>0\n", "out\nstate a>0a>0\n", "out\nstate a>0,b>0\n", "out\nstate a >0\n",
            "out\nstate a> 0\n", "out\nstate a > 0\n", "out\nstate a>0  b>0\n", "out\nstate a>0 \n",
            "out\nstate a>>0\n", "out\nstate a>0>0\n", "out\nstate a=0\n", "out\nstate a 0\n", "out\nstate 0>a\n",
            "out\nstate c>0\n", "out d\nstate c>0\n", "out\nstate e>0\n", "out\nstate x>0\n", "out\nstate A>0\n",
            "out\nstate a>0_0\n", "out\nstate a>\u0660\n", "out\nstate a>\u00b2\nstate\nstate\n", "out\nstate a>0.\n",
            "out\nstate a>0\r\n", "out\r\nstate\r\n", "out\nstate\ta>0\n", "out\nstate a>a\n", "out\nstate a>on\n",
            "out\nstate 0 a>0\n", "out\nstate: a>0\n", "out\nstate0 a>0\n", "out\nstate a>12\n" + "state\n" * 12,
            "out\n" + "state\n" * 13, "out\nstate a>True\nstate\n", "out\nstate a>0x0\n", "out\nstate a>1e0\nstate\n",
        ]
        for text in wrong:
            self.assertIsInstance(refusal(read_talk, TALK_NET, text), NoText, repr(text))
            self.assertFalse(self.look(TALK_NET, text))
        self.assertTrue(self.look(TALK_NET, "out\nstate a>11\n" + "state\n" * 11))
        self.assertFalse(self.look(TALK_NET, "out\nstate a>11\n" + "state\n" * 10))

    def test_numbers(self):
        for states in range(1, 14):
            for number in range(-1, 15):
                text = f"out\nstate a>{number}\n" + "state\n" * (states - 1)
                self.assertEqual(self.look(TALK_NET, text), states <= 12 and 0 <= number < states)

    def test_names(self):
        for name in [name for name in wrong_names() if name not in ("", "a b")]:
            self.assertIsInstance(refusal(read_talk, TALK_NET, f"out {name}\nstate\n"), NoText)
            self.assertIsInstance(refusal(read_talk, TALK_NET, f"out\nstate {name}>0\n"), NoText)

    def test_a_net_is_no_talk(self):
        for net, talk in sample_pairs():
            self.assertFalse(self.look(net, net_text(net)))
            self.assertFalse(self.look(net, net_text(net) + talk_text(net, talk)))

    def test_long_texts(self):
        for text in (
            "out\nstate a>" + "9" * 100000 + "\n", "out\nstate a>" + "0" * 100000 + "\n", "out\n" + "state\n" * 100000,
            "out" + " c" * 100000 + "\nstate\n", "out\nstate" + " a>0" * 100000 + "\n",
            "out\nstate a" + ">" * 100000 + "0\n", ">" * 100000, "out\n" * 100000, "\n" * 100000,
        ):
            self.assertIsInstance(refusal(read_talk, TALK_NET, text), NoText)


class Refusals(unittest.TestCase):
    def test_what_is_no_net(self):
        for thing in wrong_nets():
            self.assertIsInstance(refusal(talk_text, thing, GOOD_TALK), NoNet)
            self.assertIsInstance(refusal(read_talk, thing, talk_text(TALK_NET, GOOD_TALK)), NoNet)

    def test_what_is_no_talk(self):
        for thing in wrong_talks():
            self.assertIsInstance(refusal(talk_text, TALK_NET, thing), NoTalk)

    def test_what_is_no_text(self):
        text = talk_text(TALK_NET, GOOD_TALK)
        wrong = [
            text.encode(), bytearray(text.encode()), [text], (text,), {text: text}, list(text), text.splitlines(),
            GOOD_TALK, 0, 1, True, False, None, iter(text), {text}, Odd, str,
        ]
        for thing in wrong + odd_things():
            self.assertIsInstance(refusal(read_talk, TALK_NET, thing), NoText)

    def test_the_refusal_that_is_named_first(self):
        for thing in odd_things() + [list(TALK_NET), TALK_NET[:2], 1]:
            for other in (None, Odd(), (), list(GOOD_TALK), ((), ()), "", "out\n", b"out\nstate\n"):
                self.assertIsInstance(refusal(talk_text, thing, other), NoNet)
                self.assertIsInstance(refusal(read_talk, thing, other), NoNet)


class NothingChangedOrKept(unittest.TestCase):
    def test_equal_things_give_equal_answers(self):
        for net, talk in sample_pairs():
            other, same = copy.deepcopy([net, talk])
            text = talk_text(net, talk)
            self.assertEqual(talk_text(other, same), text)
            self.assertEqual(read_talk(other, "".join(list(text))), talk)
            self.assertEqual([other, same], [net, talk])

    def test_what_is_handed_in_is_not_kept(self):
        net, talk = copy.deepcopy([TALK_NET, GOOD_TALK])
        text = "".join(list(talk_text(net, talk)))
        before = [sys.getrefcount(thing) for thing in (net, talk, text)]
        talk_text(net, talk)
        read_talk(net, text)
        self.assertEqual([sys.getrefcount(thing) for thing in (net, talk, text)], before)


if __name__ == "__main__":
    unittest.main()
