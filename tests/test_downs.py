import unittest

from helper import (all_words, chance, grammar_by_chance, least_by_hand, made, made_under, product, some_machine,
                    subwords, words_in)
from lostpost.downs import down_of, least_of
from lostpost.expressions import joined, met, parting, plain, within
from lostpost.grammars import look_grammar
from lostpost.grown import grown_within
from lostpost.machines import grammar_of
from lostpost.outsides import outside_of, outside_of_grown
from lostpost.products import products_met
from lostpost.trees import tree_above
from lostpost.words import least, lies_under

WORDS = {"a": all_words("a", 9), "ab": all_words("ab", 7), "abc": all_words("abc", 5)}
# Three names, of which none comes below itself: as many products as six rules can make.
WIDE = (3, ((0, (1, "c", 1)), (1, (2, "a", 2)), (1, (2, "b", 2)), (2, ("a", "b", "c")), (2, ("c", "b", "a")),
            (2, ("b", "a", "c"))))


def expression(*texts):
    return tuple(sorted(product(text) for text in texts))


def letters_of(grammar):
    found = {thing for _, body in grammar[1] for thing in body if isinstance(thing, str)}
    return "a" if found <= {"a"} else "ab" if found <= {"a", "b"} else "abc"


def great_word(one, times):
    """A word of a product above all its words of few letters."""
    return "".join(signs if kind == "maybe" else signs * times for kind, signs in one)


class Down(unittest.TestCase):
    def assert_down(self, rules, *texts):
        names = 1 + max([0] + [name for name, _ in rules])
        self.assertEqual(down_of((names, rules)), expression(*texts), rules)

    def test_no_words(self):
        for grammar in ((1, ()), (2, ((1, ("a",)),)), (1, ((0, (0,)),)), (1, ((0, ("a", 0, 0)),)),
                        (2, ((0, (1, "a")), (1, ("a", 1))))):
            self.assertEqual(down_of(grammar), ())

    def test_the_word_without_letters_alone(self):
        for rules in (((0, ()),), ((0, (0, 0)), (0, ())), ((0, (0,)), (0, ()), (0, ()))):
            self.assertEqual(down_of((1, rules)), ((),))
        self.assertEqual(down_of((2, ((0, (1, 1)), (1, (0,)), (1, ())))), ((),))

    def test_without_rings(self):
        self.assert_down(((0, ("a", "b")),), "ab")
        self.assert_down(((0, ("a", "b")), (0, ("b",)), (0, ("c",))), "ab", "c")
        self.assert_down(((0, (1, "c", 1)), (1, ("a",)), (1, ("b",))), "aca", "acb", "bca", "bcb")
        self.assert_down(((0, (1, 2)), (1, (2, "a")), (2, ("b",)), (2, ())), "bab")

    def test_the_same_rule_twice(self):
        self.assert_down(((0, ("a", "b")), (0, ("a", "b"))), "ab")

    def test_rules_that_make_themselves(self):
        self.assert_down(((0, (0,)), (0, ("a",))), "a")
        self.assert_down(((0, ("a", 0)), (0, ("b",))), "(a)b")
        self.assert_down(((0, (0, "a")), (0, ("b",))), "b(a)")
        self.assert_down(((0, ("a", 0, "b")), (0, ("c",))), "(a)c(b)")
        self.assert_down(((0, ("a", 0, "b")), (0, ("b", 0)), (0, ("c",))), "(ab)c(b)")
        self.assert_down(((0, ("a", 0)), (0, (0, "b")), (0, ("c", "a", "b")), (0, ("b", "a"))), "(a)ca(b)", "(a)ba(b)")

    def test_two_names_in_a_body(self):
        self.assert_down(((0, (0, 0)), (0, ("a",)), (0, ("b", "c"))), "(abc)")
        self.assert_down(((0, (0, "c", 0)), (0, ())), "(c)")
        self.assert_down(((0, (1, 1)), (1, (1, "a")), (1, ("b",))), "b(a)b(a)")
        self.assert_down(((0, (0, 1)), (1, ("a", "b")), (0, ("c",))), "c(ab)")
        self.assert_down(((0, (1, 0)), (1, ("a", 1)), (1, ("b",)), (0, ("c",))), "(ab)c")

    def test_names_in_one_another(self):
        self.assert_down(((0, ("a", 1)), (1, (0, "b")), (0, ("c",))), "(a)c(b)")
        self.assert_down(((0, ("a", 1)), (1, (0, "b")), (1, ("c",))), "(a)c(b)")
        self.assert_down(((0, (1, "a")), (1, (0, 0)), (1, ("b",))), "(ab)")
        self.assert_down(((0, (1, "c", 1)), (1, ("a", 2)), (2, (1, "b")), (2, ())), "(a)(b)c(a)(b)")

    def test_names_that_make_none(self):
        self.assert_down(((0, ("a",)), (0, (0, 1)), (1, (1, "b"))), "a")
        self.assert_down(((0, ("a",)), (0, ("b", 1, 0)), (1, (0, 1))), "a")
        self.assert_down(((0, ("a",)), (1, ("b", 1)), (1, ("c",))), "a")

    def test_machines_with_ways_that_go_round(self):
        self.assertEqual(down_of(grammar_of((1, 0, (0,), ((0, "a", 0),)))), expression("(a)"))
        self.assertEqual(down_of(grammar_of((2, 1, (1,), ((1, "a", 0), (0, "b", 1))))), expression("(ab)"))
        arrows = ((3, "a", 3), (3, "b", 1), (1, "c", 1), (3, "c", 2), (2, "a", 0), (0, "b", 2))
        self.assertEqual(down_of(grammar_of((4, 3, (0, 1), arrows))), expression("(a)b(c)", "(a)c(ab)"))
        self.assertEqual(down_of(grammar_of((2, 0, (), ((0, "a", 0),)))), ())

    def test_against_trying(self):
        rng = chance(211)
        for turn in range(500):
            grammar = grammar_by_chance(rng) if turn % 4 else grammar_of(some_machine(rng))
            letters = letters_of(grammar)
            told = down_of(grammar)
            self.assertEqual(told, plain(told))
            words = WORDS[letters]
            self.assertEqual(words_in(told, words), made_under(grammar, len(words[-1]))[0], grammar)

    def test_of_each_product_all_words_come(self):
        rng = chance(212)
        for turn in range(300):
            grammar = grammar_by_chance(rng) if turn % 4 else grammar_of(some_machine(rng))
            for one in down_of(grammar):
                self.assertIsNotNone(tree_above(grammar, great_word(one, 3)), (grammar, one))

    def test_no_word_of_the_grammar_lies_outside(self):
        rng = chance(213)
        for _ in range(200):
            grammar = grammar_by_chance(rng, "ab")
            words = made(grammar, 8)[0]
            self.assertEqual(words_in(down_of(grammar), words), words)

    def test_many_products(self):
        self.assertIs(look_grammar(WIDE), True)
        told = down_of(WIDE)
        self.assertEqual(len(told), 324)
        self.assertIn(product("abcaabccabcaabc"), told)

    def test_handed_on(self):
        rng = chance(214)
        for _ in range(150):
            one, other = down_of(grammar_by_chance(rng)), down_of(grammar_of(some_machine(rng)))
            words = WORDS["abc"]
            both = words_in(one, words), words_in(other, words)
            self.assertEqual(words_in(joined(one, other), words), both[0] | both[1])
            self.assertEqual(words_in(met(one, other), words), both[0] & both[1])
            self.assertIs(within(met(one, other), one), True)
            self.assertEqual(parting(one, other) is None, one == other)
            self.assertEqual(outside_of_grown("abc", outside_of("abc", one)), one)

    def test_many_products_met(self):
        one = down_of(WIDE)[::9]
        other = down_of((3, WIDE[1][:2] + ((1, ("b", 2, 2)),) + WIDE[1][4:] + ((2, ("a", "c", "b")),)))[::9]
        told = met(one, other)
        self.assertEqual(told, plain(told))
        self.assertEqual(met(other, one), told)
        self.assertTrue(within(told, one) and within(told, other))
        for first, second in zip(one[::8], reversed(other)):
            self.assertIs(within(products_met(first, second), told), True)
        self.assertEqual(met(one, joined(one, other)), one)

    def test_asked_again_the_same_is_told(self):
        grammar = (2, ((0, (1, 1)), (1, (1, "a")), (1, ("b",))))
        first = (down_of(grammar), least_of(grammar))
        down_of((1, ())), least_of((1, ((0, ()),)))
        self.assertEqual((down_of(grammar), least_of(grammar)), first)
        self.assertEqual(grammar, (2, ((0, (1, 1)), (1, (1, "a")), (1, ("b",)))))


class Least(unittest.TestCase):
    def test_no_words(self):
        for grammar in ((1, ()), (2, ((1, ("a",)),)), (1, ((0, (0,)),)), (1, ((0, ("a", 0, 0)),))):
            self.assertEqual(least_of(grammar), ())

    def test_ordinary_ones(self):
        self.assertEqual(least_of((1, ((0, ()), (0, ("a", 0))))), ("",))
        self.assertEqual(least_of((1, ((0, ("a", 0, "b")), (0, ("c",))))), ("c",))
        self.assertEqual(least_of((1, ((0, ("c", "a")), (0, ("b",)), (0, ("a", "c")), (0, ("a", "b"))))),
                         ("b", "ac", "ca"))
        self.assertEqual(least_of((1, ((0, ("a",)), (0, ("a",)), (0, (0, 0))))), ("a",))
        self.assertEqual(least_of((2, ((0, (1, "c", 1)), (1, ("a",)), (1, ("b",))))), ("aca", "acb", "bca", "bcb"))

    def test_a_later_rule_has_less(self):
        self.assertEqual(least_of((3, ((0, ("a", "a", "a")), (0, (1,)), (1, (2,)), (1, ("b", "b")), (2, ("a",))))),
                         ("a", "bb"))
        self.assertEqual(least_of((2, ((0, (1, "a")), (1, (0, "b")), (1, ("c", "c", "c")), (0, ("b", "b"))))),
                         ("bb", "ccca"))

    def test_against_trying(self):
        rng = chance(215)
        for turn in range(500):
            grammar = grammar_by_chance(rng) if turn % 4 else grammar_of(some_machine(rng))
            told = least_of(grammar)
            self.assertIsInstance(told, tuple)
            self.assertEqual(told, tuple(least_by_hand(told)))
            words = made(grammar, 5)[0]
            self.assertEqual(set(least_by_hand(words)), {word for word in told if len(word) <= 5}, grammar)
            for word in told:
                if len(word) > 5:
                    self.assertEqual(made(grammar, len(word))[0] & subwords(word), {word})

    def test_long_ones(self):
        told = least_of(WIDE)
        self.assertEqual(len(told), 324)
        self.assertEqual({len(word) for word in told}, {15})
        self.assertEqual(list(told), least(told))

    def test_handed_on(self):
        rng = chance(216)
        for _ in range(150):
            grammar = grammar_by_chance(rng)
            told = least_of(grammar)
            outside = outside_of_grown("abc", told)
            self.assertEqual(outside_of("abc", outside), told)
            self.assertIs(grown_within(told, told), True)
            for word in made(grammar, 4)[0]:
                self.assertTrue(any(lies_under(less, word) for less in told))
