import unittest

from heldwhen.errors import NoWord
from heldwhen.words import truth_by
from tests.samples import NO_WORDS, TRUTHS, WORDS


class Point4(unittest.TestCase):
    def test_each_word_with_each_two_truths(self):
        for word, truths in WORDS.items():
            for (one, other), truth in zip(TRUTHS, truths):
                self.assertIs(truth_by(word, one, other), truth, (word, one, other))

    def test_another_word_is_refused_with_no_word(self):
        for word in NO_WORDS:
            for one, other in TRUTHS:
                with self.assertRaises(NoWord) as caught:
                    truth_by(word, one, other)
                self.assertIs(type(caught.exception), NoWord, word)
