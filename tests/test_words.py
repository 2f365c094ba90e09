import itertools
import unittest

from helper import all_words, chance, in_order, least_by_hand, some_word, subwords
from lostpost.words import above_both, is_alphabet, is_word, least, lies_under, places

NO_WORDS_OF_LETTERS = ("A", "aB", "a b", " ", "a1", "a?", ".", "a\n", "\n", "`", "{", "\u00e9", "\u00df", "\u0430", "_", "aZ")


class LettersAndAlphabets(unittest.TestCase):
    def test_words(self):
        for text in ("", "a", "z", "abc", "zzz", "ba", "abcdefghijklmnopqrstuvwxyz" * 3):
            self.assertIs(is_word(text), True, text)

    def test_texts_that_are_no_words(self):
        for text in NO_WORDS_OF_LETTERS:
            self.assertIs(is_word(text), False, text)

    def test_alphabets(self):
        for text in ("", "a", "z", "ab", "acz", "abcdefghijklmnopqrstuvwxyz"):
            self.assertIs(is_alphabet(text), True, text)

    def test_texts_that_are_no_alphabets(self):
        for text in ("aa", "ba", "aba", "abb", "acb") + NO_WORDS_OF_LETTERS:
            self.assertIs(is_alphabet(text), False, text)


class WordsUnderWords(unittest.TestCase):
    def test_each_word_under_each(self):
        words = all_words("ab", 5)
        for more in words:
            under = subwords(more)
            for less in words:
                self.assertIs(lies_under(less, more), less in under, (less, more))

    def test_nine_letters_and_more(self):
        self.assertIs(lies_under("abcabcabc", "abcabcabc"), True)
        self.assertIs(lies_under("abcabcabc", "abcabcab"), False)
        self.assertIs(lies_under("cba", "abcabcabc"), True)
        self.assertIs(lies_under("cbacb", "abcabcabc"), False)
        self.assertIs(lies_under("ab" * 3000, "aabb" * 3000), True)

    def test_the_word_without_letters(self):
        self.assertIs(lies_under("", ""), True)
        self.assertIs(lies_under("", "abc"), True)
        self.assertIs(lies_under("a", ""), False)
        self.assertEqual(places("", "abc"), [])
        self.assertEqual(places("", ""), [])

    def test_places_are_the_first_row(self):
        rng = chance(1)
        for _ in range(400):
            less, more = some_word(rng, "abc", 4), some_word(rng, "abc", 9)
            rows = itertools.combinations(range(len(more)), len(less))
            fitting = [list(row) for row in rows if "".join(more[k] for k in row) == less]
            self.assertEqual(places(less, more), min(fitting) if fitting else None, (less, more))

    def test_places_where_it_does_not_lie_under(self):
        self.assertIsNone(places("ba", "ab"))
        self.assertIsNone(places("a", ""))
        self.assertIsNone(places("aa", "ba"))

    def test_a_told_row_of_places_is_the_askers_own(self):
        told = places("ab", "aab")
        self.assertEqual(told, [0, 2])
        told.append(9)
        self.assertEqual(places("ab", "aab"), [0, 2])


class LeastWords(unittest.TestCase):
    def test_none_of_none(self):
        self.assertEqual(least([]), [])
        self.assertEqual(least(()), [])

    def test_ordinary_ones(self):
        self.assertEqual(least(["abc", "b", "ca", "ac"]), ["b", "ac", "ca"])
        self.assertEqual(least(("ba", "ab", "c")), ["c", "ab", "ba"])

    def test_each_once(self):
        self.assertEqual(least(["ab", "ab", "ba", "ab"]), ["ab", "ba"])
        self.assertEqual(least(["", ""]), [""])

    def test_the_word_without_letters_is_under_all(self):
        self.assertEqual(least(["a", "", "bc"]), [""])

    def test_twenty_words(self):
        rng = chance(2)
        for _ in range(300):
            words = [some_word(rng, "abc", 6) for _ in range(rng.randint(0, 20))]
            self.assertEqual(least(words), least_by_hand(words), words)

    def test_long_words_are_least_together(self):
        rng = chance(3)
        for _ in range(100):
            words = [some_word(rng, "abc", 6, 4) for _ in range(20)]
            self.assertEqual(least(words), least_by_hand(words), words)

    def test_what_is_handed_in_and_told_stays_apart(self):
        words = ["ba", "b", "b", ""]
        told = least(words)
        self.assertIsInstance(told, list)
        self.assertEqual(words, ["ba", "b", "b", ""])
        told.append("zz")
        self.assertEqual(words, ["ba", "b", "b", ""])
        self.assertEqual(least(words), [""])
        kept = ["a", "b"]
        self.assertIsNot(least(kept), kept)

    def test_four_alone_lets_other_letters_be(self):
        self.assertIs(lies_under("xyz", "wxwywz"), True)
        self.assertEqual(places("lop", "loop"), [0, 1, 3])


class AboveBoth(unittest.TestCase):
    def test_ordinary_ones(self):
        self.assertEqual(above_both("ab", "ba"), ["aba", "bab"])
        self.assertEqual(above_both("a", "b"), ["ab", "ba"])
        self.assertEqual(above_both("ab", "c"), ["abc", "acb", "cab"])

    def test_one_under_the_other(self):
        self.assertEqual(above_both("", ""), [""])
        self.assertEqual(above_both("", "ab"), ["ab"])
        self.assertEqual(above_both("ab", ""), ["ab"])
        self.assertEqual(above_both("ab", "ab"), ["ab"])
        self.assertEqual(above_both("aa", "aba"), ["aba"])

    def test_least_ones_of_unlike_lengths(self):
        told = above_both("abb", "bba")
        self.assertEqual(told, ["abba", "babab", "bbabb"])

    def test_against_all_words(self):
        words = all_words("ab", 8)
        under = {word: subwords(word) for word in words}
        for one in all_words("ab", 4):
            for other in all_words("ab", 4):
                both = {word for word in words if one in under[word] and other in under[word]}
                none_shorter = [w for w in both if not any(w[:k] + w[k + 1:] in both for k in range(len(w)))]
                self.assertEqual(above_both(one, other), in_order(none_shorter), (one, other))

    def test_five_letters(self):
        self.assertEqual(len(above_both("aaaaa", "bbbbb")), 252)
        rng = chance(4)
        for _ in range(60):
            one, other = some_word(rng, "abc", 5, 4), some_word(rng, "abc", 5, 4)
            told = above_both(one, other)
            self.assertEqual(told, least(told))
            self.assertEqual(told, above_both(other, one))
            for word in told:
                self.assertTrue(lies_under(one, word) and lies_under(other, word))
                for k in range(len(word)):
                    shorter = word[:k] + word[k + 1:]
                    self.assertFalse(lies_under(one, shorter) and lies_under(other, shorter))

    def test_no_word_above_both_is_without_a_least_one(self):
        rng = chance(5)
        for _ in range(300):
            one, other = some_word(rng, "abc", 5), some_word(rng, "abc", 5)
            mixed = list(one + other)
            rng.shuffle(mixed)
            above = "".join(mixed) + "abc" * rng.randint(0, 3)
            if lies_under(one, above) and lies_under(other, above):
                self.assertTrue(any(lies_under(word, above) for word in above_both(one, other)))

    def test_a_told_list_is_the_askers_own(self):
        told = above_both("a", "b")
        told.clear()
        self.assertEqual(above_both("a", "b"), ["ab", "ba"])
