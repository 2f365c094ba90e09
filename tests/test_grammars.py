import itertools
import unittest

from helper import chance, made, some_grammar
from lostpost.errors import NoGrammar
from lostpost.grammars import is_tree, look_grammar, size_of, word_of

PAIRS = (2, ((0, ("a", 0, 1)), (0, ()), (1, ("b",)), (1, (1, 1)), (0, ("a", "b", "c"))))
LEAF = (1, ())
B = (2, ())


def trees(grammar, name, most):
    """All trees of a name of at most so many rules."""
    return [tree for size in range(1, most + 1) for tree in trees_of_size(grammar, name, size)]


def trees_of_size(grammar, name, size):
    told = []
    for number, (made_name, body) in enumerate(grammar[1]):
        if made_name == name:
            names = [thing for thing in body if isinstance(thing, int)]
            told.extend((number, kids) for kids in rows_of_trees(grammar, names, size - 1))
    return told


def rows_of_trees(grammar, names, size):
    if not names:
        return [()] if size == 0 else []
    told = []
    for first in range(1, size + 1):
        for rest in rows_of_trees(grammar, names[1:], size - first):
            told.extend((tree,) + rest for tree in trees_of_size(grammar, names[0], first))
    return told


def word_by_hand(grammar, tree):
    number, kids = tree
    kids = iter(kids)
    body = grammar[1][number][1]
    return "".join(thing if isinstance(thing, str) else word_by_hand(grammar, next(kids)) for thing in body)


def all_tuples(depth):
    """Tuples of few whole numbers and of such tuples."""
    told = [()]
    for _ in range(depth):
        parts = [0, 1, -1] + told
        told = [row for length in range(3) for row in itertools.product(parts, repeat=length)]
    return told


class LookedAt(unittest.TestCase):
    def assert_refused(self, grammar, at):
        with self.assertRaises(NoGrammar) as taken:
            look_grammar(grammar)
        self.assertEqual(taken.exception.at, at, grammar)

    def test_let_by(self):
        for names in (1, 2, 3):
            rules = ((names - 1, ()), (0, ("z", 0, names - 1)), (0, ("a", "b", "c")))
            self.assertIs(look_grammar((names, ())), True)
            self.assertIs(look_grammar((names, rules)), True)
        self.assertIs(look_grammar(PAIRS), True)
        self.assertIs(look_grammar((1, ((0, ("a", "b", "c")), (0, ("d", "e", "f"))))), True)

    def test_names(self):
        for names in (0, 4, -1, 999, 10 ** 20):
            self.assert_refused((names, ()), -1)
            self.assert_refused((names, ((0, (9, 9, 9, 9)),) * 9), -1)

    def test_a_name_that_is_not_there(self):
        for names in (1, 2, 3):
            for number in (names, names + 1, -1, -names, 10 ** 20):
                for rule in ((number, ()), (0, (number,)), (0, ("a", number)), (0, (0, "a", number))):
                    self.assert_refused((names, ((0, ()), rule)), 1)

    def test_a_text_that_is_no_letter(self):
        for text in ("", "ab", "A", "1", " ", ".", "aa", "\u00e9", "{", "`", "a ", "\n"):
            self.assert_refused((1, ((0, (text,)),)), 0)
            self.assert_refused((1, ((0, ("a",)), (0, ("a", 0, text)))), 1)

    def test_more_than_three_things(self):
        for body in (("a",) * 4, (0, "a", "a", 0), ("a",) * 100):
            self.assert_refused((1, ((0, ("a",) * 3), (0, ()), (0, body))), 2)

    def test_more_than_two_names(self):
        self.assert_refused((1, ((0, (0, 0)), (0, (0, 0, 0)))), 1)
        self.assert_refused((3, ((0, (0, 1, 2)),)), 0)

    def test_more_than_six_rules(self):
        self.assertIs(look_grammar((1, ((0, ()),) * 6)), True)
        for count in (7, 8, 100):
            self.assert_refused((1, ((0, ()),) * count), count)

    def test_the_first_that_is_due(self):
        bad = (0, (1,))
        self.assert_refused((1, ((0, ()), bad, bad)), 1)
        self.assert_refused((1, ((0, ()),) * 7 + (bad,)), 7)
        self.assert_refused((1, ((0, ()),) * 9 + (bad,) * 2), 9)
        self.assert_refused((0, (bad,)), -1)

    def test_unlike_letters_do_not_hinder(self):
        self.assertIs(look_grammar((1, tuple((0, (letter,)) for letter in "abcxyz"))), True)

    def test_all_let_by(self):
        rng = chance(121)
        for _ in range(200):
            self.assertIs(look_grammar(some_grammar(rng)), True)


class Trees(unittest.TestCase):
    def test_some(self):
        for name, tree, word, size in ((0, LEAF, "", 1), (1, B, "b", 1), (0, (0, (LEAF, B)), "ab", 3),
                                       (0, (0, ((0, (LEAF, B)), (3, (B, B)))), "aabbb", 7), (0, (4, ()), "abc", 1)):
            self.assertIs(is_tree(PAIRS, name, tree), True)
            self.assertIs(is_tree(PAIRS, 1 - name, tree), False)
            self.assertEqual(word_of(PAIRS, tree), word)
            self.assertEqual(size_of(tree), size)

    def test_wrong_kids(self):
        for tree in ((0, ()), (0, (LEAF,)), (0, (LEAF, B, B)), (0, (LEAF, LEAF)), (0, (B, B)), (0, (B, LEAF)),
                     (1, (LEAF,)), (4, (B,)), (0, ((0, (LEAF,)), B)), (0, (LEAF, (3, (B, LEAF)))), (0, (LEAF, 2)),
                     (0, (1, B)), (0, (LEAF, ())), (0, ((), B)), (0, (LEAF, (2,)))):
            self.assertIs(is_tree(PAIRS, 0, tree), False, tree)

    def test_no_tree_at_all(self):
        for tree in ((), (1,), (1, (), ()), (1, 0), ((), 1), ((), ()), ((1, ()),), (5, ()), (-1, ()), (-4, ()),
                     (10 ** 20, ()), (1, (), 0), (0, 0), (((),),)):
            self.assertIs(is_tree(PAIRS, 0, tree), False, tree)

    def test_a_name_that_is_not_there(self):
        for name in (-1, 2, 7):
            self.assertIs(is_tree(PAIRS, name, LEAF), False)
            self.assertIs(is_tree((1, ()), name, LEAF), False)
        self.assertIs(is_tree((1, ()), 0, ()), False)

    def test_all_small_trees(self):
        rng = chance(122)
        seen = 0
        for _ in range(100):
            grammar = some_grammar(rng)
            words = made(grammar, 4)
            for name in range(grammar[0]):
                for size in range(1, 6):
                    for tree in trees_of_size(grammar, name, size):
                        seen += 1
                        for other in range(grammar[0]):
                            self.assertIs(is_tree(grammar, other, tree), other == name)
                        self.assertEqual(size_of(tree), size)
                        word = word_of(grammar, tree)
                        self.assertEqual(word, word_by_hand(grammar, tree))
                        self.assertTrue(len(word) > 4 or word in words[name])
        self.assertLess(500, seen)

    def test_each_word_comes_of_a_tree(self):
        grammar = (2, ((0, ("a", 1, "b")), (0, ("c",)), (1, (0, 0)), (1, ())))
        words = {word_of(grammar, tree) for tree in trees(grammar, 0, 9)}
        self.assertEqual({word for word in words if len(word) <= 5}, {word for word in made(grammar, 5)[0]})

    def test_all_small_tuples(self):
        grammar = (2, ((0, (1,)), (1, ("a",))))
        right = [trees(grammar, name, 3) for name in range(2)]
        for tree in all_tuples(2):
            for name in range(2):
                self.assertIs(is_tree(grammar, name, tree), tree in right[name], tree)

    def test_the_order_of_the_kids(self):
        grammar = (3, ((0, (1, "c", 2)), (1, ("a",)), (2, ("b", 2)), (2, ())))
        self.assertEqual(word_of(grammar, (0, ((1, ()), (2, ((2, ((3, ()),)),))))), "acbb")

    def test_deep_trees(self):
        grammar = (1, ((0, ("a", 0, "b")), (0, ())))
        tree = (1, ())
        for _ in range(20000):
            tree = (0, (tree,))
        self.assertIs(is_tree(grammar, 0, tree), True)
        self.assertEqual(word_of(grammar, tree), "a" * 20000 + "b" * 20000)
        self.assertEqual(size_of(tree), 20001)
        self.assertIs(is_tree(grammar, 0, (0, (tree, tree))), False)
