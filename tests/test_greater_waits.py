import unittest

from anywait.faults import fault
from anywait.talks import is_steady
from anywait.waits import timed
from tests.families import Picker, all_pairs, calm_pairs, chain, chains, meeting, ring, some_waits
from tests.model import numbered

FOLLOWS = (("a",), (("g", ("same", "a")),), (False, False))


def times_of(changes):
    """For each wire and how often it has changed the time at which it has."""
    changes = list(changes)
    return dict(zip(numbered([wire for time, wire in changes]), [time for time, wire in changes]))


class GreaterWaits(unittest.TestCase):
    def not_earlier(self, net, talk, waits, greater):
        """Looks only at those times until which the list with the lesser waits has surely come to all."""
        changes, word = timed(net, talk, waits, 200)
        sooner = times_of(changes)
        last = changes[-1][0] if changes else 0
        looked = 0
        for change, time in times_of(timed(net, talk, greater, 60)[0]).items():
            if word == "end" or time < last:
                self.assertIn(change, sooner, (net, talk, waits, greater))
                self.assertLessEqual(sooner[change], time, (net, talk, waits, greater, change))
                looked += 1
        return looked

    def test_no_change_comes_earlier(self):
        pick = Picker(21)
        looked = 0
        for net, talk in calm_pairs():
            for most in (3, 40):
                waits = some_waits(net, pick, most)
                greater = tuple(wait + pick.below(most) for wait in waits)
                looked += self.not_earlier(net, talk, waits, greater)
        self.assertGreater(looked, 5000)

    def test_one_wait_that_is_greater(self):
        pick = Picker(22)
        for net, talk in [meeting(), *chains(), ring((True, False, False)), ring((True, True, False, False))]:
            waits = some_waits(net, pick, 9)
            for place in range(len(waits)):
                for more in (1, 2, 30, 99 - waits[place]):
                    greater = waits[:place] + (waits[place] + more,) + waits[place + 1:]
                    self.assertGreater(self.not_earlier(net, talk, waits, greater), 4)

    def test_worked_by_hand(self):
        net, talk = chain(1)
        self.assertEqual(timed(net, talk, (1, 1, 1), 5)[0], [(1, "r"), (2, "g"), (3, "r"), (3, "k"), (4, "g")])
        self.assertEqual(timed(net, talk, (1, 4, 1), 5)[0], [(1, "r"), (2, "g"), (3, "r"), (6, "k"), (7, "g")])
        self.assertEqual(timed(net, talk, (3, 1, 1), 5)[0], [(3, "r"), (4, "g"), (5, "k"), (7, "r"), (8, "g")])

    def test_where_a_wait_is_taken_a_greater_one_can_be_earlier(self):
        talk = ((), ((("a", 1),), (("a", 2),), ()))
        self.assertIsNotNone(fault(FOLLOWS, talk))
        self.assertEqual(timed(FOLLOWS, talk, (2, 3), 9), ([(2, "a"), (4, "a")], "end"))
        self.assertEqual(timed(FOLLOWS, talk, (4, 3), 9), ([(4, "a"), (7, "g"), (8, "a"), (11, "g")], "end"))


class TheWaitsAlone(unittest.TestCase):
    def test_the_order_of_the_wires_makes_no_change_earlier_or_later(self):
        """Of changes at one time another one may be made first: so the last time, which may be cut, is left out."""
        pick = Picker(25)
        looked = 0
        for net, talk in calm_pairs():
            number = len(net[0])
            waits = some_waits(net, pick, 5)
            turned = (net[0][::-1], net[1][::-1], net[2][:number][::-1] + net[2][number:][::-1])
            changes, word = timed(net, talk, waits, 50)
            others, other_word = timed(turned, talk, waits[:number][::-1] + waits[number:][::-1], 50)
            self.assertEqual((word, len(changes)), (other_word, len(others)))
            last = changes[-1][0] if word == "on" else 99 * 50
            told = times_of(change for change in changes if change[0] < last)
            self.assertEqual(told, times_of(change for change in others if change[0] < last), (net, talk, waits))
            looked += changes != others
        self.assertGreater(looked, 20)


class WaitsSoManyTimesAsGreat(unittest.TestCase):
    def test_all_come_so_many_times_as_late(self):
        pick = Picker(23)
        for net, talk in all_pairs():
            waits = some_waits(net, pick, 9)
            changes, word = timed(net, talk, waits, 30)
            times = 2 + pick.below(10)
            self.assertEqual(
                timed(net, talk, tuple(wait * times for wait in waits), 30),
                ([(time * times, wire) for time, wire in changes], word),
            )

    def test_one_to_eleven_times(self):
        pick = Picker(24)
        for net, talk in calm_pairs()[::9]:
            self.assertTrue(is_steady(net, talk))
            waits = some_waits(net, pick, 9)
            changes, word = timed(net, talk, waits, 40)
            for times in range(1, 12):
                self.assertEqual(
                    timed(net, talk, tuple(wait * times for wait in waits), 40),
                    ([(time * times, wire) for time, wire in changes], word),
                )


if __name__ == "__main__":
    unittest.main()
