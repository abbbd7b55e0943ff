import unittest

from anywait.errors import NoNet
from anywait.nets import waiting
from tests.samples import odd_things, rows_of

OFF_ON = ((False, True),)
ALL_PAIRS = rows_of(2)
HELD_OR = ("held", ("or", ("a", "b")), "a", True)
HELD_TWICE = ("held", HELD_OR, "b", False)

# What a gate g tells of the wires a, b and g itself, for the settings 000, 001, 010 and so on.
TOLD = (
    (("same", "a"), "00001111"),
    (("same", "b"), "00110011"),
    (("same", "g"), "01010101"),
    (("not", "a"), "11110000"),
    (("not", "g"), "10101010"),
    (("and", ("a",)), "00001111"),
    (("and", ("a", "b")), "00000011"),
    (("and", ("b", "a", "g")), "00000001"),
    (("or", ("b",)), "00110011"),
    (("or", ("a", "b")), "00111111"),
    (("or", ("g", "a", "b")), "01111111"),
    (("both", ("a", "b")), "00010111"),
    (("both", ("b", "g")), "01010101"),
    (("both", ("g", "a", "b")), "01010101"),
    (("table", ("a", "b"), ()), "00000000"),
    (("table", ("a", "b"), ALL_PAIRS), "11111111"),
    (("table", ("a", "b"), OFF_ON), "00110000"),
    (("table", ("b", "a"), OFF_ON), "00001100"),
    (("table", ("a", "b"), (ALL_PAIRS[0], ALL_PAIRS[3])), "11000011"),
    (("table", ("g",), ((False,),)), "10101010"),
    (("table", ("a", "g", "b"), rows_of(3)[3:5]), "00011000"),
    (("held", ("same", "a"), "b", True), "00010111"),
    (("held", ("same", "a"), "b", False), "01001101"),
    (("held", ("not", "a"), "b", True), "01110001"),
    (("held", ("not", "a"), "b", False), "11010100"),
    (("held", ("and", ("a", "b")), "g", True), "01010101"),
    (("held", ("and", ("a", "b")), "g", False), "00000011"),
    (("held", ("both", ("a", "b")), "a", False), "01010101"),
    (("held", ("table", ("a", "b"), OFF_ON), "b", True), "00110001"),
    (HELD_OR, "00011111"),
    (("held", HELD_OR, "b", True), "00010111"),
    (HELD_TWICE, "01011101"),
    (("held", HELD_TWICE, "a", True), "01011101"),
    (("held", HELD_TWICE, "a", False), "01010101"),
)


def renamed(thing, names):
    """A net, or a part of it, with other names."""
    if isinstance(thing, tuple):
        return tuple(renamed(part, names) for part in thing)
    return names.get(thing, thing)


class Waiting(unittest.TestCase):
    def test_each_kind_in_each_setting(self):
        for kind, told in TOLD:
            net = (("a", "b"), (("g", kind),), (False, False, False))
            for setting, digit in zip(rows_of(3), told):
                expected = ["g"] if (digit == "1") != setting[2] else []
                self.assertEqual(waiting(net, setting), expected, (kind, setting))

    def test_names_of_several_letters(self):
        for kind, told in TOLD:
            net = renamed((("a", "b"), (("g", kind),), (False, False, False)), {"a": "ba", "b": "gab", "g": "abgabg"})
            for setting, digit in zip(rows_of(3), told):
                expected = ["abgabg"] if (digit == "1") != setting[2] else []
                self.assertEqual(waiting(net, setting), expected, (kind, setting))

    def test_kinds_of_four_wires(self):
        names = ("a", "b", "c", "d")
        kinds = (("and", names), ("or", names[::-1]), ("both", names))
        for setting in rows_of(5):
            number = sum(setting[:4])
            told = (number == 4, number > 0, number == 4 or (number > 0 and setting[4]))
            for kind, value in zip(kinds, told):
                net = (("a", "b", "c"), (("d", ("same", "d")), ("g", kind)), (False,) * 5)
                self.assertEqual(waiting(net, setting), ["g"] if value != setting[4] else [], (kind, setting))

    def test_a_table_of_eight_wires(self):
        names = ("a", "b", "c", "d", "e", "f", "g", "h")
        rows = tuple(row for row in rows_of(8) if sum(row) % 3 == 1)
        gates = tuple((name, ("same", name)) for name in names[3:7]) + (("h", ("table", names, rows)),)
        for setting in rows_of(8):
            expected = ["h"] if (sum(setting) % 3 == 1) != setting[7] else []
            self.assertEqual(waiting((names[:3], gates, (True,) * 8), setting), expected, setting)

    def test_gates_are_told_in_order_and_inputs_never(self):
        gates = (("z", ("not", "z")), ("b", ("same", "i")), ("m", ("not", "i")), ("a", ("not", "m")))
        net = (("i",), gates + (("k", ("same", "k")),), (False,) * 6)
        self.assertEqual(waiting(net, (False,) * 6), ["z", "m", "a"])
        self.assertEqual(waiting(net, (True,) * 6), ["z", "m", "a"])
        self.assertEqual(waiting(net, (True, False, False, True, True, True)), ["z", "b", "m", "a"])
        self.assertEqual(waiting(net, (False, True, False, True, False, True)), ["z"])

    def test_none_waits(self):
        self.assertEqual(waiting(((), (("a", ("same", "a")),), (True,)), (False,)), [])

    def test_the_setting_counts_and_not_the_start(self):
        for start in (True, False):
            net = (("a",), (("g", ("same", "a")),), (start, start))
            self.assertEqual(waiting(net, (True, False)), ["g"])
            self.assertEqual(waiting(net, (True, True)), [])

    def test_the_own_wire_is_the_gates_own_also_within_held(self):
        kind = ("held", ("both", ("a", "b")), "a", True)
        net = (("a", "b"), (("g", kind), ("h", kind)), (False,) * 4)
        self.assertEqual(waiting(net, (True, False, False, True)), [])
        self.assertEqual(waiting(net, (True, True, False, True)), ["g"])
        self.assertEqual(waiting(net, (False, False, False, True)), ["h"])

    def test_what_is_no_setting_of_the_net(self):
        net = (("a",), (("g", ("same", "a")),), (True, True))
        for setting in [(), (True,), (True,) * 3, [True, True], (1, 0), (True, 0), "ab", *odd_things()]:
            with self.assertRaises(NoNet):
                waiting(net, setting)


if __name__ == "__main__":
    unittest.main()
