import unittest

from helper import LETTERS, all_words, chance, in_order, least_by_hand, some_grown, some_word, subwords
from lostpost.grown import grown_joined, grown_met, grown_within, has
from lostpost.words import above_both, least, lies_under


def least_of_grown(words):
    """The least words of a grown set, of which all up to a length are handed in."""
    return tuple(in_order(w for w in words if not any(w[:k] + w[k + 1:] in words for k in range(len(w)))))


class Has(unittest.TestCase):
    def test_no_words(self):
        for word in ("", "a", "abcabcabc"):
            self.assertIs(has((), word), False)

    def test_the_word_without_letters(self):
        for word in ("", "a", "abcabcabc"):
            self.assertIs(has(("",), word), True)

    def test_all_words_above_one(self):
        grown = ("c", "ab", "bb")
        for word in all_words("abc", 5):
            under = subwords(word)
            self.assertIs(has(grown, word), any(one in under for one in grown), word)

    def test_nine_letters(self):
        self.assertIs(has(("cba",), "aabbaabca"), False)
        self.assertIs(has(("cba",), "aabcabbca"), True)


class JoinedAndMet(unittest.TestCase):
    def setUp(self):
        self.words = {"a": all_words("a", 6), "ab": all_words("ab", 6), "abc": all_words("abc", 6)}
        self.under = {word: subwords(word) for words in self.words.values() for word in words}

    def all_of(self, grown, letters):
        return {word for word in self.words[letters] if any(one in self.under[word] for one in grown)}

    def test_against_all_words(self):
        rng = chance(11)
        for _ in range(120):
            letters = rng.choice(LETTERS)
            one, other = some_grown(rng, letters), some_grown(rng, letters)
            first, second = self.all_of(one, letters), self.all_of(other, letters)
            self.assertEqual(grown_joined(one, other), least_of_grown(first | second), (one, other))
            self.assertEqual(grown_met(one, other), least_of_grown(first & second), (one, other))
            self.assertIs(grown_within(one, other), first <= second, (one, other))

    def test_no_words(self):
        grown = ("b", "aa")
        self.assertEqual(grown_joined((), ()), ())
        self.assertEqual(grown_joined((), grown), grown)
        self.assertEqual(grown_joined(grown, ()), grown)
        for other in ((), grown, ("",)):
            self.assertEqual(grown_met((), other), ())
            self.assertEqual(grown_met(other, ()), ())
            self.assertIs(grown_within((), other), True)
        self.assertIs(grown_within(grown, ()), False)
        self.assertIs(grown_within(("",), ()), False)

    def test_all_words(self):
        grown = ("b", "aa")
        self.assertEqual(grown_joined(("",), grown), ("",))
        self.assertEqual(grown_met(("",), grown), grown)
        self.assertEqual(grown_met(grown, ("",)), grown)
        self.assertEqual(grown_met(("",), ("",)), ("",))
        self.assertIs(grown_within(grown, ("",)), True)
        self.assertIs(grown_within(("",), grown), False)

    def test_ordinary_ones(self):
        self.assertEqual(grown_joined(("ab",), ("b",)), ("b",))
        self.assertEqual(grown_joined(("b", "aa"), ("c", "aa")), ("b", "c", "aa"))
        self.assertEqual(grown_met(("ab",), ("ba",)), ("aba", "bab"))
        self.assertEqual(grown_met(("a", "b"), ("b", "c")), ("b", "ac", "ca"))
        self.assertIs(grown_within(("aab", "cb"), ("ab", "c")), True)
        self.assertIs(grown_within(("ab", "c"), ("aab", "cb")), False)

    def test_the_same_one_twice(self):
        for grown in ((), ("",), ("b", "aa"), ("aba", "bab", "ccc")):
            self.assertEqual(grown_joined(grown, grown), grown)
            self.assertEqual(grown_met(grown, grown), grown)
            self.assertIs(grown_within(grown, grown), True)

    def test_what_is_told_is_a_grown_set(self):
        rng = chance(12)
        for _ in range(100):
            one, other = some_grown(rng, "abc"), some_grown(rng, "abc")
            for told in (grown_joined(one, other), grown_met(one, other)):
                self.assertIsInstance(told, tuple)
                self.assertEqual(told, tuple(least_by_hand(told)))


class HandedOn(unittest.TestCase):
    def test_told_ones_met_again(self):
        rng = chance(13)
        for _ in range(60):
            one, other, third = (some_grown(rng, "abc") for _ in range(3))
            left = grown_met(grown_met(one, other), third)
            self.assertEqual(left, grown_met(one, grown_met(other, third)))
            self.assertEqual(grown_joined(left, third), third)
            self.assertEqual(grown_met(grown_joined(one, other), third),
                             grown_joined(grown_met(one, third), grown_met(other, third)))

    def test_told_least_words_as_grown_sets(self):
        rng = chance(14)
        for _ in range(10):
            one = tuple(least([some_word(rng, "abc", 6, 3) for _ in range(20)]))
            other = tuple(least([some_word(rng, "abc", 6, 3) for _ in range(20)]))
            told = grown_met(one, other)
            self.assertTrue(grown_within(told, one) and grown_within(told, other))
            for word in told:
                for k in range(len(word)):
                    shorter = word[:k] + word[k + 1:]
                    self.assertFalse(has(one, shorter) and has(other, shorter))
            for word in [some_word(rng, "abc", 14, 8) for _ in range(50)]:
                self.assertIs(has(told, word), has(one, word) and has(other, word))

    def test_words_above_three(self):
        told = grown_met(tuple(above_both("aaaaa", "bbbbb")), ("cc",))
        self.assertEqual(len(told), 252 * 11 * 12 // 2)
        self.assertTrue(all(len(word) == 12 for word in told))

    def test_words_above_four(self):
        words = ("abcab", "bcabc", "cabca", "abbca")
        told = grown_met(tuple(above_both(words[0], words[1])), tuple(above_both(words[2], words[3])))
        for word in told:
            self.assertTrue(all(lies_under(one, word) for one in words))

    def test_asked_again_the_same_is_told(self):
        one, other = ("b", "aa"), ("c", "ab")
        first = (grown_met(one, other), grown_joined(one, other))
        grown_met(("c",), ("a",))
        self.assertEqual((grown_met(one, other), grown_joined(one, other)), first)
