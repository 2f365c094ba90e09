import unittest

from helper import LETTERS, all_words, chance, in_order, product, some_expression, some_grown, some_product, words_in
from lostpost.expressions import expression_has, joined, met, parting, plain, within
from lostpost.outsides import outside_of_grown
from lostpost.products import plain_product, product_within, products_met

WORDS = {"a": all_words("a", 12), "ab": all_words("ab", 9), "abc": all_words("abc", 7)}


def expression(*texts):
    return tuple(product(text) for text in texts)


def sorted_expression(*texts):
    return tuple(sorted(expression(*texts)))


def words_of(one, letters):
    return words_in(one, WORDS[letters])


class Has(unittest.TestCase):
    def test_no_products(self):
        for word in ("", "a", "abcabcabc"):
            self.assertIs(expression_has((), word), False)

    def test_a_product_without_pieces(self):
        self.assertIs(expression_has(((),), ""), True)
        self.assertIs(expression_has(((),), "a"), False)

    def test_against_all_words(self):
        rng = chance(31)
        for _ in range(40):
            letters = rng.choice(LETTERS)
            one = some_expression(rng, letters)
            inside = words_of(one, letters)
            for word in WORDS[letters]:
                self.assertIs(expression_has(one, word), word in inside, (one, word))

    def test_nine_letters(self):
        one = expression("(ab)c(ab)", "(bc)")
        self.assertIs(expression_has(one, "abbacbaab"), True)
        self.assertIs(expression_has(one, "abbacbacb"), False)
        self.assertIs(expression_has(one, "cbcbcbcbc"), True)


class Plain(unittest.TestCase):
    def test_edges(self):
        self.assertEqual(plain(()), ())
        self.assertEqual(plain(((),)), ((),))
        self.assertEqual(plain(((), ())), ((),))
        self.assertEqual(plain(((), product("a"))), expression("a"))

    def test_ordinary_ones(self):
        self.assertEqual(plain(expression("b", "a")), expression("a", "b"))
        self.assertEqual(plain(expression("a", "a")), expression("a"))
        self.assertEqual(plain(expression("a(ab)", "(ab)b")), expression("(ab)"))
        self.assertEqual(plain(expression("a", "(ab)c", "bbc")), expression("(ab)c"))
        self.assertEqual(plain(expression("(a)(b)", "(b)(a)")), expression("(a)(b)", "(b)(a)"))
        self.assertEqual(plain(expression("b", "(c)", "a")), sorted_expression("(c)", "a", "b"))

    def test_the_form_of_a_plain_one(self):
        rng = chance(32)
        for _ in range(200):
            one = some_expression(rng, "abc")
            told = plain(one)
            self.assertEqual(told, tuple(sorted(set(told))))
            for part in told:
                self.assertEqual(part, plain_product(part))
                self.assertIn(part, [plain_product(other) for other in one])
                self.assertFalse(any(product_within(part, other) for other in told if other != part))
            self.assertEqual(plain(told), told)

    def test_the_same_just_where_the_words_are(self):
        rng = chance(33)
        for _ in range(150):
            letters = rng.choice(LETTERS)
            one, other = some_expression(rng, letters, 3, 3), some_expression(rng, letters, 3, 3)
            self.assertEqual(words_of(plain(one), letters), words_of(one, letters))
            same = words_of(one, letters) == words_of(other, letters)
            self.assertIs(plain(one) == plain(other), same, (one, other))


class WithinJoinedMet(unittest.TestCase):
    def test_against_all_words(self):
        rng = chance(34)
        for _ in range(120):
            letters = rng.choice(LETTERS)
            one, other = some_expression(rng, letters, 2, 4), some_expression(rng, letters, 2, 4)
            first, second = words_of(one, letters), words_of(other, letters)
            self.assertIs(within(one, other), first <= second, (one, other))
            for told, words in ((joined(one, other), first | second), (met(one, other), first & second)):
                self.assertEqual(words_of(told, letters), words, (one, other))
                self.assertEqual(told, plain(told))

    def test_no_products(self):
        some = expression("(ab)", "c")
        for other in ((), ((),), some):
            self.assertEqual(met((), other), ())
            self.assertEqual(met(other, ()), ())
            self.assertEqual(joined((), other), plain(other))
            self.assertEqual(joined(other, ()), plain(other))
            self.assertIs(within((), other), True)
        self.assertIs(within(((),), ()), False)

    def test_a_product_without_pieces(self):
        some = expression("(ab)", "c")
        self.assertEqual(met(((),), some), ((),))
        self.assertEqual(joined(((),), some), some)
        self.assertIs(within(((),), some), True)
        self.assertIs(within(some, ((),)), False)

    def test_ordinary_ones(self):
        self.assertEqual(joined(expression("a"), expression("(ab)", "c")), expression("(ab)", "c"))
        self.assertEqual(met(expression("(ab)", "c"), expression("(bc)")), sorted_expression("(b)", "c"))
        self.assertEqual(met(expression("(ab)", "(bc)"), expression("(ac)")), expression("(a)", "(c)"))
        self.assertIs(within(expression("a(b)", "c"), expression("(ab)", "(bc)")), True)
        self.assertIs(within(expression("(abc)"), expression("(ab)", "(bc)")), False)

    def test_met_as_its_products_are(self):
        rng = chance(39)
        for _ in range(150):
            one, other = some_expression(rng, "abc", 3, 6), some_expression(rng, "abc", 3, 6)
            pairs = [products_met(first, second) for first in one for second in other]
            self.assertEqual(met(one, other), plain(tuple(part for told in pairs for part in told)), (one, other))

    def test_products_twice(self):
        rng = chance(35)
        for _ in range(60):
            one = some_expression(rng, "abc", 2, 4)
            twice = one + one
            self.assertEqual(plain(twice), plain(one))
            self.assertEqual(joined(one, one), plain(one))
            self.assertEqual(met(twice, one), plain(one))
            self.assertIs(within(twice, one), True)
            self.assertIsNone(parting(twice, one))


class Parting(unittest.TestCase):
    def test_ordinary_ones(self):
        self.assertEqual(parting(expression("a"), expression("b")), "a")
        self.assertEqual(parting(expression("b"), expression("a")), "a")
        self.assertEqual(parting(expression("(ab)"), expression("(a)(b)")), "ba")
        self.assertEqual(parting(expression("(a)(b)", "(b)(a)"), expression("(ab)")), "aba")
        self.assertEqual(parting(expression("aaaaa"), expression("(a)")), "aaaaaa")

    def test_no_products(self):
        self.assertIsNone(parting((), ()))
        self.assertEqual(parting((), ((),)), "")
        self.assertEqual(parting(expression("(abc)"), ()), "")
        self.assertEqual(parting(((),), expression("b")), "b")

    def test_none_where_the_words_are_the_same(self):
        self.assertIsNone(parting(expression("a(ab)"), expression("(ab)b")))
        self.assertIsNone(parting(expression("(a)", "aa"), expression("(a)(a)")))
        self.assertIsNone(parting(((),), ((), ())))

    def test_against_all_words(self):
        rng = chance(36)
        for _ in range(250):
            letters = rng.choice(LETTERS)
            one, other = some_expression(rng, letters, 2), some_expression(rng, letters, 2)
            parts = in_order(words_of(one, letters) ^ words_of(other, letters))
            self.assertEqual(parting(one, other), parts[0] if parts else None, (one, other))
            self.assertEqual(parting(other, one), parting(one, other))

    def test_nearly_the_same_words(self):
        rng = chance(37)
        for _ in range(200):
            letters = rng.choice(("ab", "abc"))
            one = some_expression(rng, letters, 2)
            other = one[:1] + (some_product(rng, letters),) if rng.random() < 0.5 else one[1:]
            parts = in_order(words_of(one, letters) ^ words_of(other, letters))
            self.assertEqual(parting(one, other), parts[0] if parts else None, (one, other))


class HandedOn(unittest.TestCase):
    def test_products_of_told_ones(self):
        rng = chance(38)
        for _ in range(40):
            told = outside_of_grown("abc", some_grown(rng, "abc")) + outside_of_grown("abc", some_grown(rng, "abc"))
            if not told:
                continue
            one = tuple(rng.choice(told) for _ in range(4))
            other = tuple((("any", "ab"),) + rng.choice(told) for _ in range(2)) + tuple(rng.choice(told) for _ in range(2))
            first, second = words_of(one, "abc"), words_of(other, "abc")
            self.assertEqual(words_of(met(one, other), "abc"), first & second)
            self.assertEqual(words_of(joined(one, other), "abc"), first | second)
            self.assertEqual(words_of(plain(one), "abc"), first)
            word = parting(one, other)
            if word is None:
                self.assertEqual(plain(one), plain(other))
            else:
                self.assertNotEqual(expression_has(one, word), expression_has(other, word))

    def test_ten_pieces(self):
        one, other = product("(ab)c" * 5), product("(bc)a" * 5)
        told = met((one,), (other,))
        self.assertEqual(met((other,), (one,)), told)
        self.assertEqual(plain(told), told)
        self.assertEqual(met(told, (one,)), told)
        self.assertTrue(within(told, (one,)) and within(told, (other,)))
        word = parting(told, told[1:])
        self.assertTrue(expression_has(told, word) and not expression_has(told[1:], word))

    def test_asked_again_the_same_is_told(self):
        one, other = expression("(ab)", "c"), expression("(bc)", "a")
        first = (plain(one), joined(one, other), met(one, other), parting(one, other))
        met(other, other)
        self.assertEqual((plain(one), joined(one, other), met(one, other), parting(one, other)), first)
        self.assertEqual((one, other), (expression("(ab)", "c"), expression("(bc)", "a")))
