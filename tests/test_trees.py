import re
import unittest

from helper import (all_words, chance, grammar_by_chance, made, pattern, product, some_expression, some_machine,
                    subwords, under_by_size)
from lostpost.downs import down_of
from lostpost.grammars import is_tree, size_of, word_of
from lostpost.machines import grammar_of
from lostpost.trees import tree_above, tree_outside

PAIRS = (1, ((0, ("a", 0, "b")), (0, ())))
EDGES = ((1, ()), (2, ((1, ("a",)),)), (1, ((0, (0,)),)), (2, ((0, (1, "a")), (1, ("a", 1)))))


def has_by_pattern(expression, word):
    return any(re.fullmatch(pattern(one), word) for one in expression)


class Above(unittest.TestCase):
    def assert_above(self, grammar, word, size):
        tree = tree_above(grammar, word)
        if size is None:
            self.assertIsNone(tree, (grammar, word))
        else:
            self.assertIs(is_tree(grammar, 0, tree), True)
            self.assertIn(word, subwords(word_of(grammar, tree)))
            self.assertEqual(size_of(tree), size, (grammar, word))

    def test_no_words(self):
        for grammar in EDGES:
            for word in ("", "a", "abcabc"):
                self.assert_above(grammar, word, None)

    def test_the_word_without_letters(self):
        self.assertEqual(tree_above(PAIRS, ""), (1, ()))
        self.assertEqual(tree_above((1, ((0, ("a", 0)), (0, ("b",)))), ""), (1, ()))
        self.assert_above((2, ((0, (1, 1)), (1, ("a",)), (0, (1, "b", "c")))), "", 2)

    def test_ordinary_ones(self):
        self.assertEqual(tree_above(PAIRS, "ab"), (0, ((1, ()),)))
        self.assertEqual(tree_above(PAIRS, "aab"), (0, ((0, ((1, ()),)),)))
        for word, size in (("b", 2), ("aaaaaa", 7), ("aaabbb", 4), ("ba", None), ("c", None), ("abc", None)):
            self.assert_above(PAIRS, word, size)

    def test_of_the_least_size(self):
        several = (2, ((0, ("a", 0)), (0, (1,)), (1, (1, 1)), (1, ("a",)), (1, ("a", "a", "a")), (0, (0, 1))))
        for length, size in ((0, 2), (1, 2), (2, 2), (3, 2), (4, 3), (5, 4), (6, 4)):
            self.assert_above(several, "a" * length, size)
        self.assert_above((1, ((0, (0,)), (0, ("a",)))), "a", 1)
        self.assert_above((3, ((0, (1,)), (1, (2,)), (2, ("a", "b")), (0, ("a", "c")))), "a", 1)
        self.assert_above((3, ((0, (1,)), (1, (2,)), (2, ("a", "b")), (0, ("a", "c")))), "b", 3)

    def test_letters_that_the_grammar_has_not(self):
        for word in ("c", "cab", "abcabc", "z", "aaz"):
            self.assert_above(PAIRS, word, None)

    def test_names_that_make_none(self):
        self.assert_above((2, ((0, ("a", 1)), (0, ("b",)), (1, (1, "a")))), "a", None)
        self.assert_above((2, ((0, ("a", 1)), (0, ("b",)), (1, (1, "a")))), "b", 1)

    def test_against_all_sizes(self):
        rng = chance(221)
        for turn in range(250):
            grammar = grammar_by_chance(rng) if turn % 4 else grammar_of(some_machine(rng))
            sizes = under_by_size(grammar, 9, 3)
            for word in all_words("abc", 3):
                least = min([size for size in range(10) if word in sizes[(0, size)]], default=None)
                if least is not None:
                    self.assert_above(grammar, word, least)
                else:
                    tree = tree_above(grammar, word)
                    if tree is not None:
                        self.assert_above(grammar, word, size_of(tree))
                        self.assertLess(9, size_of(tree))

    def test_six_letters(self):
        rng = chance(222)
        for turn in range(60):
            grammar = grammar_by_chance(rng, "ab") if turn % 4 else grammar_of(some_machine(rng))
            sizes = under_by_size(grammar, 7, 6)
            for word in rng.sample(all_words("ab", 6), 30):
                least = min([size for size in range(8) if word in sizes[(0, size)]], default=None)
                if least is not None:
                    self.assert_above(grammar, word, least)

    def test_asked_again_the_same_is_told(self):
        first = tree_above(PAIRS, "ab")
        tree_above(PAIRS, "aabb")
        self.assertEqual(tree_above(PAIRS, "ab"), first)
        self.assertEqual(PAIRS, (1, ((0, ("a", 0, "b")), (0, ()))))


class Outside(unittest.TestCase):
    def assert_outside(self, grammar, expression):
        tree = tree_outside(grammar, expression)
        self.assertIs(is_tree(grammar, 0, tree), True, (grammar, expression))
        self.assertFalse(has_by_pattern(expression, word_of(grammar, tree)), (grammar, expression))

    def test_no_words(self):
        for grammar in EDGES:
            for expression in ((), ((),), (product("(abc)"),)):
                self.assertIsNone(tree_outside(grammar, expression))

    def test_an_expression_without_products(self):
        for grammar in (PAIRS, (1, ((0, ()),)), (1, ((0, ("a", "b")), (0, (0, 0))))):
            self.assert_outside(grammar, ())

    def test_the_word_without_letters_alone(self):
        self.assertIsNone(tree_outside((1, ((0, (0, 0)), (0, ()))), ((),)))
        self.assert_outside((1, ((0, (0, 0)), (0, ()), (0, ("a",)))), ((),))

    def test_one_that_has_all_words(self):
        for expression in ((product("(a)(b)"),), (product("(ab)"),), (product("(abc)"), product("c"))):
            self.assertIsNone(tree_outside(PAIRS, expression))
        self.assertIsNone(tree_outside((1, ((0, ("a",)), (0, ("b",)))), (product("b"), product("a"))))

    def test_one_that_lacks_just_one_word(self):
        grammar = (1, ((0, ("a", "b")), (0, ("b", "a")), (0, ("c",))))
        self.assertEqual(tree_outside(grammar, (product("ab"), product("ba"))), (2, ()))
        self.assertEqual(tree_outside(grammar, (product("ab"), product("c"))), (1, ()))
        self.assertEqual(tree_outside(grammar, (product("ba"), product("c"))), (0, ()))
        self.assertIsNone(tree_outside(grammar, (product("ba"), product("c"), product("ab"))))

    def test_words_that_come_late(self):
        self.assert_outside(PAIRS, (product("aaa(b)"),))
        self.assert_outside(PAIRS, (product("(a)bbb"), product("aa(b)")))
        self.assert_outside((1, ((0, ("a", 0)), (0, (0, "b")), (0, ("a", "a")))), (product("(a)bb"), product("aaa(b)")))

    def test_other_letters(self):
        self.assert_outside(PAIRS, (product("(c)"), product("c(a)")))
        self.assertIsNone(tree_outside(PAIRS, (product("c(ab)c"),)))

    def test_expressions_by_chance(self):
        rng = chance(223)
        found = []
        for turn in range(600):
            grammar = grammar_by_chance(rng) if turn % 4 else grammar_of(some_machine(rng))
            expression = some_expression(rng, rng.choice(("ab", "abc")), 3, 3)
            found.append(tree_outside(grammar, expression) is not None)
            if found[-1]:
                self.assert_outside(grammar, expression)
            else:
                self.assertTrue(all(has_by_pattern(expression, word) for word in made(grammar, 5)[0]))
        self.assertTrue(100 < sum(found) < 500)

    def test_told_expressions(self):
        rng = chance(224)
        for turn in range(300):
            grammar = grammar_by_chance(rng) if turn % 4 else grammar_of(some_machine(rng))
            told = down_of(grammar)
            self.assertIsNone(tree_outside(grammar, told))
            for k in range(len(told)):
                self.assert_outside(grammar, told[:k] + told[k + 1:])
                self.assert_outside(grammar, (told[:k] + told[k + 1:]) * 2)
                self.assertIsNone(tree_outside(grammar, told[k:] + ((("any", "ab"),) + told[0],) + told[:k]))

    def test_told_of_two_put_together(self):
        rng = chance(225)
        for _ in range(200):
            one, other = grammar_by_chance(rng), grammar_of(some_machine(rng))
            expression = (down_of(one) + down_of(other))[:4]
            if rng.random() < 0.5:
                expression = tuple((("any", rng.choice(("a", "bc"))),) + part for part in expression)
            for grammar in (one, other):
                if tree_outside(grammar, expression) is None:
                    self.assertTrue(all(has_by_pattern(expression, word) for word in made(grammar, 5)[0]))
                else:
                    self.assert_outside(grammar, expression)

    def test_many_products(self):
        grammar = (3, ((0, (1, "c", 1)), (1, (2, "a", 2)), (1, (2, "b", 2)), (2, ("a", "b", "c")),
                       (2, ("c", "b", "a")), (2, ("b", "a", "c"))))
        told = down_of(grammar)
        self.assertIsNone(tree_outside(grammar, told))
        self.assert_outside(grammar, told[:100] + told[101:])

    def test_asked_again_the_same_is_told(self):
        expression = (product("aaa(b)"), product("c"))
        first = tree_outside(PAIRS, expression)
        tree_outside(PAIRS, ())
        self.assertEqual(tree_outside(PAIRS, expression), first)
        self.assertEqual(expression, (product("aaa(b)"), product("c")))
