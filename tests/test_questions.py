import unittest

from helper import all_words, chance, in_order, some_word, subwords
from lostpost.questions import alike, answers


def answers_by_hand(word, n):
    return tuple(in_order(question for question in subwords(word) if len(question) <= n))


class Answers(unittest.TestCase):
    def test_by_no_letters(self):
        for word in ("", "a", "abcabc"):
            self.assertEqual(answers(word, 0), ("",))

    def test_of_the_word_without_letters(self):
        for n in range(4):
            self.assertEqual(answers("", n), ("",))

    def test_ordinary_ones(self):
        self.assertEqual(answers("ba", 1), ("", "a", "b"))
        self.assertEqual(answers("aab", 2), ("", "a", "b", "aa", "ab"))
        self.assertEqual(answers("cab", 2), ("", "a", "b", "c", "ab", "ca", "cb"))

    def test_more_letters_than_the_word_has(self):
        self.assertEqual(answers("ba", 3), ("", "a", "b", "ba"))
        self.assertEqual(answers("aa", 3), ("", "a", "aa"))

    def test_against_leaving_out(self):
        rng = chance(231)
        for _ in range(300):
            word = some_word(rng, "abc", 6)
            for n in range(7):
                self.assertEqual(answers(word, n), answers_by_hand(word, n))

    def test_asked_again_the_same_is_told(self):
        first = answers("abc", 2)
        answers("cba", 3)
        self.assertEqual(answers("abc", 2), first)


class Alike(unittest.TestCase):
    def test_by_no_letters_all_are(self):
        self.assertIs(alike("", "abcabc", 0), True)
        self.assertIs(alike("a", "b", 0), True)

    def test_ordinary_ones(self):
        self.assertIs(alike("ab", "ba", 1), True)
        self.assertIs(alike("ab", "a", 1), False)
        self.assertIs(alike("", "a", 1), False)
        self.assertIs(alike("abab", "baba", 2), True)
        self.assertIs(alike("aab", "aaab", 2), True)

    def test_alike_by_n_but_not_by_one_more(self):
        for one, other, n in (("ab", "ba", 1), ("aa", "aaa", 2), ("abab", "baba", 2), ("aaa", "aaaa", 3)):
            self.assertIs(alike(one, other, n), True)
            self.assertIs(alike(one, other, n + 1), False)

    def test_against_leaving_out(self):
        words = all_words("abc", 3) + all_words("ab", 5)
        rng = chance(232)
        for n in range(4):
            told = {word: answers_by_hand(word, n) for word in words}
            for one in words:
                for other in rng.sample(words, 20) + [one]:
                    self.assertIs(alike(one, other, n), told[one] == told[other], (one, other, n))
