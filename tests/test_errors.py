import unittest

from anywait import errors

NAMES = ("NoNet", "NoTalk", "NoRun", "NoWaits", "NoNumber", "Unlike", "Clash", "TooBig", "NoText")


class Errors(unittest.TestCase):
    def test_wait_error_is_a_value_error(self):
        self.assertEqual(errors.WaitError.__bases__, (ValueError,))

    def test_each_refusal_stands_under_wait_error_and_none_under_another(self):
        for name in NAMES:
            self.assertEqual(getattr(errors, name).__bases__, (errors.WaitError,), name)

    def test_each_refusal_is_one_of_its_own(self):
        self.assertEqual(len({getattr(errors, name) for name in NAMES}), len(NAMES))

    def test_a_refusal_can_be_raised_with_words_and_without(self):
        for name in NAMES:
            kind = getattr(errors, name)
            for made in (kind(), kind("some words")):
                with self.assertRaises(errors.WaitError):
                    raise made


if __name__ == "__main__":
    unittest.main()
