import unittest

from helper import all_words, chance, grammar_by_chance, in_order, made, some_machine, under_by_size
from lostpost.machines import grammar_of
from lostpost.makes import makers, words_of


class Makers(unittest.TestCase):
    def test_without_rules(self):
        for names in (1, 2, 3):
            self.assertEqual(makers((names, ())), ())

    def test_ordinary_ones(self):
        self.assertEqual(makers((1, ((0, ()),))), (0,))
        self.assertEqual(makers((3, ((2, ("a",)), (0, ("b",))))), (0, 2))
        self.assertEqual(makers((3, ((0, (1, 2)), (1, (2, "a")), (2, ("b",))))), (0, 1, 2))

    def test_names_that_make_none(self):
        self.assertEqual(makers((1, ((0, (0,)),))), ())
        self.assertEqual(makers((1, ((0, ("a", 0)), (0, (0, 0))))), ())
        self.assertEqual(makers((2, ((0, (1,)), (1, (0,))))), ())
        self.assertEqual(makers((2, ((0, (1, "a")), (1, (1,))))), ())
        self.assertEqual(makers((3, ((0, (1, 2)), (1, ("a",)), (2, (2, 1))))), (1,))
        self.assertEqual(makers((3, ((0, (1, 2)), (2, ("a",))))), (2,))

    def test_names_in_one_another(self):
        self.assertEqual(makers((2, ((0, (1, 1)), (1, (0, "a")), (1, ("b",))))), (0, 1))
        self.assertEqual(makers((3, ((2, ()), (1, (2, 0)), (0, (1,)), (0, (2, 2))))), (0, 1, 2))

    def test_by_trees(self):
        rng = chance(201)
        for turn in range(400):
            grammar = grammar_by_chance(rng) if turn % 4 else grammar_of(some_machine(rng))
            sizes = under_by_size(grammar, 8, 0)
            making = tuple(name for name in range(grammar[0]) if any(sizes[(name, size)] for size in range(9)))
            self.assertEqual(makers(grammar), making, grammar)


class Words(unittest.TestCase):
    def test_no_words(self):
        for grammar in ((1, ()), (2, ((1, ("a",)),)), (1, ((0, (0,)),)), (2, ((0, (1, "a")), (1, ("a", 1))))):
            for n in range(5):
                self.assertEqual(words_of(grammar, n), [])

    def test_the_word_without_letters_alone(self):
        for rules in (((0, ()),), ((0, (0, 0)), (0, ())), ((0, (0,)), (0, ()), (0, ()))):
            for n in range(5):
                self.assertEqual(words_of((1, rules), n), [""])

    def test_of_at_most_so_many_letters(self):
        grammar = (1, ((0, ("a", 0, "b")), (0, ()), (0, ("c",))))
        for n, words in enumerate(([""], ["", "c"], ["", "c", "ab"], ["", "c", "ab", "acb"])):
            self.assertEqual(words_of(grammar, n), words)
        self.assertEqual(words_of(grammar, 4), ["", "c", "ab", "acb", "aabb"])

    def test_in_order(self):
        grammar = (1, ((0, ("c",)), (0, (0, 0)), (0, ("a",)), (0, ("b", "b"))))
        self.assertEqual(words_of(grammar, 2), ["a", "c", "aa", "ac", "bb", "ca", "cc"])

    def test_all_words(self):
        grammar = (1, ((0, ()), (0, ("a", 0)), (0, (0, "b")), (0, ("c",)), (0, (0, 0))))
        for n in range(5):
            self.assertEqual(words_of(grammar, n), all_words("abc", n))

    def test_the_same_rule_twice(self):
        self.assertEqual(words_of((1, ((0, ("a", "b")), (0, ("a", "b")))), 3), ["ab"])

    def test_a_long_way_to_a_short_word(self):
        grammar = (3, ((0, (1, 1)), (1, (2, 2)), (2, (2,)), (2, ()), (2, ("a",))))
        self.assertEqual(words_of(grammar, 4), ["", "a", "aa", "aaa", "aaaa"])

    def test_against_trying(self):
        rng = chance(202)
        for turn in range(400):
            grammar = grammar_by_chance(rng) if turn % 4 else grammar_of(some_machine(rng))
            for n in range(5):
                self.assertEqual(words_of(grammar, n), in_order(made(grammar, n)[0]), grammar)

    def test_what_is_told_is_the_askers_own(self):
        grammar = (1, ((0, ("a", 0)), (0, ())))
        told = words_of(grammar, 2)
        told.append("b")
        self.assertEqual(words_of(grammar, 2), ["", "a", "aa"])
        self.assertEqual(grammar, (1, ((0, ("a", 0)), (0, ()))))
