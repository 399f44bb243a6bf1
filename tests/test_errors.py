import unittest

from pagewalks.errors import NoCommand, NoKind, NoLink, NoText, WalkError

REFUSALS = (NoLink, NoKind, NoText, NoCommand)


class Errors(unittest.TestCase):
    def test_walk_error_stands_under_value_error(self):
        self.assertTrue(issubclass(WalkError, ValueError))
        self.assertIsNot(WalkError, ValueError)

    def test_each_refusal_stands_under_walk_error(self):
        for refusal in REFUSALS:
            with self.subTest(refusal.__name__):
                self.assertTrue(issubclass(refusal, WalkError))
                self.assertIsNot(refusal, WalkError)

    def test_none_stands_under_another(self):
        for place, one in enumerate(REFUSALS):
            for other in REFUSALS[:place] + REFUSALS[place + 1:]:
                with self.subTest(one=one.__name__, other=other.__name__):
                    self.assertFalse(issubclass(one, other))

    def test_each_is_called_by_its_own_name(self):
        names = [refusal.__name__ for refusal in (WalkError,) + REFUSALS]
        self.assertEqual(names, ["WalkError", "NoLink", "NoKind", "NoText", "NoCommand"])

    def test_each_can_be_raised_and_taken(self):
        for refusal in REFUSALS:
            with self.subTest(refusal.__name__):
                with self.assertRaises(WalkError) as caught:
                    raise refusal("words")
                self.assertIs(caught.exception.__class__, refusal)
