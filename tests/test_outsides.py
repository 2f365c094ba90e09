import unittest

from helper import (LETTERS, all_words, chance, least_by_hand, product, some_expression, some_grown, some_word, subwords,
                    words_in)
from lostpost.expressions import expression_has, joined, met, plain
from lostpost.grown import grown_joined, grown_met, has
from lostpost.outsides import outside_of, outside_of_grown
from lostpost.words import above_both, least

WORDS = {"a": all_words("a", 12), "ab": all_words("ab", 8), "abc": all_words("abc", 6)}
UNDER = {word: subwords(word) for words in WORDS.values() for word in words}


class OfGrownSets(unittest.TestCase):
    def test_edges(self):
        for letters in LETTERS:
            self.assertEqual(outside_of_grown(letters, ()), ((("any", letters),),))
            self.assertEqual(outside_of_grown(letters, ("",)), ())
        self.assertEqual(outside_of_grown("a", ("a",)), ((),))
        self.assertEqual(outside_of_grown("a", ("aaa",)), (product("aa"),))
        self.assertEqual(outside_of_grown("ab", ("a", "b")), ((),))

    def test_ordinary_ones(self):
        self.assertEqual(outside_of_grown("ab", ("ab",)), (product("(b)(a)"),))
        self.assertEqual(outside_of_grown("ab", ("aba",)), (product("(b)(a)(b)"),))
        self.assertEqual(outside_of_grown("ab", ("ab", "ba")), (product("(a)"), product("(b)")))
        self.assertEqual(outside_of_grown("abc", ("ab",)), (product("(bc)(ac)"),))

    def test_more_letters_than_it_has(self):
        self.assertEqual(outside_of_grown("abc", ("a",)), (product("(bc)"),))
        self.assertEqual(outside_of_grown("abc", ("bb",)), (product("(ac)b(ac)"),))

    def test_against_all_words(self):
        rng = chance(51)
        for _ in range(150):
            letters = rng.choice(LETTERS)
            grown = some_grown(rng, rng.choice([part for part in LETTERS if part in letters]))
            told = outside_of_grown(letters, grown)
            self.assertEqual(told, plain(told))
            outside = {word for word in WORDS[letters] if not any(one in UNDER[word] for one in grown)}
            self.assertEqual(words_in(told, WORDS[letters]), outside, (letters, grown))
            self.assertLessEqual({sign for one in told for piece in one for sign in piece[1]}, set(letters))


class OfExpressions(unittest.TestCase):
    def test_edges(self):
        for letters in LETTERS:
            self.assertEqual(outside_of(letters, ()), ("",))
            self.assertEqual(outside_of(letters, ((),)), tuple(letters))
            self.assertEqual(outside_of(letters, ((("any", letters),),)), ())

    def test_ordinary_ones(self):
        self.assertEqual(outside_of("ab", (product("a"),)), ("b", "aa"))
        self.assertEqual(outside_of("ab", (product("(b)(a)"),)), ("ab",))
        self.assertEqual(outside_of("ab", (product("(a)"), product("(b)"))), ("ab", "ba"))
        self.assertEqual(outside_of("ab", (product("aa"), product("(b)"))), ("ab", "ba", "aaa"))

    def test_more_letters_than_it_has(self):
        self.assertEqual(outside_of("abc", (product("b"),)), ("a", "c", "bb"))
        self.assertEqual(outside_of("abc", (product("(a)"),)), ("b", "c"))

    def test_plain_or_not(self):
        self.assertEqual(outside_of("ab", (product("a(ab)b"), product("a"))), ())
        self.assertEqual(outside_of("ab", (product("a"), product("a"), ())), ("b", "aa"))

    def test_against_all_words(self):
        rng = chance(52)
        for _ in range(150):
            letters = rng.choice(LETTERS)
            expression = some_expression(rng, rng.choice([part for part in LETTERS if part in letters]), 3, 3)
            told = outside_of(letters, expression)
            self.assertIsInstance(told, tuple)
            self.assertEqual(told, tuple(least_by_hand(told)))
            inside = words_in(expression, WORDS[letters])
            for word in WORDS[letters]:
                self.assertIs(has(told, word), word not in inside, (letters, expression, word))
            for word in told:
                self.assertFalse(expression_has(expression, word))
                self.assertTrue(all(expression_has(expression, word[:k] + word[k + 1:]) for k in range(len(word))))


class OutsidesOfOutsides(unittest.TestCase):
    def test_one_comes_back(self):
        rng = chance(53)
        for _ in range(200):
            letters = rng.choice(LETTERS)
            grown = some_grown(rng, letters)
            self.assertEqual(outside_of(letters, outside_of_grown(letters, grown)), grown)
            expression = some_expression(rng, letters, 3, 3)
            self.assertEqual(outside_of_grown(letters, outside_of(letters, expression)), plain(expression))

    def test_joined_and_met_change_places(self):
        rng = chance(54)
        for _ in range(60):
            one, other = some_grown(rng, "abc"), some_grown(rng, "abc")
            first, second = outside_of_grown("abc", one), outside_of_grown("abc", other)
            self.assertEqual(outside_of("abc", met(first, second)), grown_joined(one, other))
            self.assertEqual(outside_of("abc", joined(first, second)), grown_met(one, other))
            self.assertEqual(outside_of_grown("abc", grown_met(one, other)), joined(first, second))

    def test_told_least_words(self):
        rng = chance(55)
        for length in (3, 4, 5):
            grown = tuple(least([some_word(rng, "abc", length, length) for _ in range(20)]))
            self.assertEqual(outside_of("abc", outside_of_grown("abc", grown)), grown)
        grown = tuple(above_both("abbca", "bcaab"))
        told = outside_of_grown("abc", grown)
        self.assertEqual(told, joined(outside_of_grown("abc", ("abbca",)), outside_of_grown("abc", ("bcaab",))))
        self.assertEqual(outside_of("abc", told), grown)

    def test_asked_again_the_same_is_told(self):
        grown, expression = ("ab", "cc"), (product("(ab)c"), product("cc"))
        first = (outside_of_grown("abc", grown), outside_of("abc", expression))
        outside_of("ab", outside_of_grown("ab", ("a",)))
        self.assertEqual((outside_of_grown("abc", grown), outside_of("abc", expression)), first)
