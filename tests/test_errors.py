import unittest

from heldwhen.errors import (
    HeldError, NoColumn, NoStretch, NoTable, NoText, NoTurn, NoWidth, NoWord,
)

SEVEN = (NoWord, NoTable, NoWidth, NoStretch, NoColumn, NoTurn, NoText)


class Refusals(unittest.TestCase):
    def test_each_stands_under_held_error(self):
        for refusal in SEVEN:
            self.assertTrue(issubclass(refusal, HeldError), refusal)
            self.assertIsNot(refusal, HeldError)

    def test_held_error_stands_under_value_error(self):
        self.assertTrue(issubclass(HeldError, ValueError))
        self.assertIsNot(HeldError, ValueError)

    def test_none_stands_under_another(self):
        for one in SEVEN:
            for other in SEVEN:
                if one is not other:
                    self.assertFalse(issubclass(one, other), (one, other))

    def test_they_are_seven_and_bear_their_names(self):
        names = [refusal.__name__ for refusal in SEVEN]
        self.assertEqual(names, ["NoWord", "NoTable", "NoWidth", "NoStretch", "NoColumn", "NoTurn", "NoText"])
        self.assertEqual(len(set(SEVEN)), 7)

    def test_each_can_be_raised_with_words(self):
        for refusal in SEVEN + (HeldError,):
            with self.assertRaises(HeldError) as caught:
                raise refusal("some words")
            self.assertIs(type(caught.exception), refusal)
