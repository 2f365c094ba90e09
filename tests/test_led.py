import unittest

from helper import all_words, chance, subwords
from lostpost.led import led_to


def answers(word, n):
    return frozenset(question for question in subwords(word) if len(question) <= n)


def is_one_letter_longer(word, shorter):
    return any(word[:k] + word[k + 1:] == shorter for k in range(len(word)))


class Led(unittest.TestCase):
    def assert_led(self, one, other, n):
        told = led_to(one, other, n)
        self.assertIsInstance(told, list, (one, other, n))
        self.assertEqual((told[0], told[-1]), (one, other))
        for word, further in zip(told, told[1:]):
            self.assertTrue(is_one_letter_longer(word, further) or is_one_letter_longer(further, word), told)
        self.assertEqual({answers(word, n) for word in told}, {answers(one, n)})
        self.assertLessEqual(set("".join(told)), set(one + other))
        return told

    def test_a_word_to_itself(self):
        for word in ("", "a", "abcab"):
            for n in range(4):
                self.assertEqual(led_to(word, word, n), [word])

    def test_words_that_are_not_alike(self):
        for one, other, n in (("a", "b", 1), ("", "a", 1), ("ab", "ba", 2), ("abc", "abcc", 2), ("aa", "aaa", 3)):
            self.assertIsNone(led_to(one, other, n))
            self.assertIsNone(led_to(other, one, n))

    def test_by_no_letters(self):
        for one in ("", "a", "cab"):
            for other in ("", "b", "bbabc"):
                self.assert_led(one, other, 0)

    def test_one_letter_more(self):
        self.assertEqual(led_to("aa", "aaa", 2), ["aa", "aaa"])
        self.assertEqual(led_to("aaa", "aa", 2), ["aaa", "aa"])

    def test_through_longer_ones(self):
        for one, other, n in (("ab", "ba", 1), ("abab", "baba", 2), ("abcab", "bacba", 1), ("ababa", "babab", 2),
                              ("a", "b", 0), ("abbab", "babba", 2)):
            told = self.assert_led(one, other, n)
            self.assertGreater(max(len(word) for word in told), max(len(one), len(other)))

    def test_all_short_words(self):
        rng = chance(241)
        for letters, most in (("ab", 5), ("abc", 4)):
            words = all_words(letters, most)
            for n in range(4):
                told = {word: answers(word, n) for word in words}
                for one in words:
                    same = [other for other in words if told[other] == told[one]]
                    for other in same if len(same) < 8 else rng.sample(same, 8):
                        self.assert_led(one, other, n)
                    other = rng.choice(words)
                    self.assertEqual(led_to(one, other, n) is None, told[one] != told[other])

    def test_three_letters_and_five(self):
        rng = chance(242)
        kinds = {}
        for word in all_words("abc", 5):
            for n in (2, 3):
                kinds.setdefault((n, answers(word, n)), []).append(word)
        for (n, _), words in kinds.items():
            for _ in range(min(6, len(words))):
                self.assert_led(rng.choice(words), rng.choice(words), n)

    def test_told_words_handed_on(self):
        told = led_to("ababa", "babab", 2)
        longest = max(told, key=len)
        for word in told:
            self.assert_led(longest, word, 2)

    def test_what_is_told_is_the_askers_own(self):
        first = led_to("ab", "ba", 1)
        copy = list(first)
        first.clear()
        self.assertIsNone(led_to("a", "b", 2))
        self.assertEqual(led_to("ab", "ba", 1), copy)
