import unittest

from helper import LETTERS, all_words, chance, product, some_product, words_in
from lostpost.products import plain_product, product_has, product_within, products_met

WORDS = {"a": all_words("a", 12), "ab": all_words("ab", 9), "abc": all_words("abc", 7)}


def words_of(one, letters):
    return words_in((one,), WORDS[letters])


def plain_in_any_order(rng, one):
    """Leaves out covered pieces one at a time, by chance."""
    pieces = list(one)
    while True:
        covered = []
        for k in range(len(pieces) - 1):
            for keeps, goes in ((k, k + 1), (k + 1, k)):
                if pieces[keeps][0] == "any" and set(pieces[goes][1]) <= set(pieces[keeps][1]):
                    covered.append(goes)
        if not covered:
            return tuple(pieces)
        pieces.pop(rng.choice(covered))


class Has(unittest.TestCase):
    def test_no_pieces(self):
        self.assertIs(product_has((), ""), True)
        self.assertIs(product_has((), "a"), False)

    def test_a_maybe(self):
        self.assertEqual([product_has((("maybe", "a"),), word) for word in ("", "a", "aa", "b")],
                         [True, True, False, False])

    def test_an_any(self):
        self.assertEqual([product_has((("any", "ac"),), word) for word in ("", "a", "caca", "cab", "b")],
                         [True, True, True, False, False])

    def test_against_all_words(self):
        rng = chance(21)
        for _ in range(60):
            letters = rng.choice(LETTERS)
            one = some_product(rng, letters)
            inside = words_of(one, letters)
            for word in WORDS[letters]:
                self.assertIs(product_has(one, word), word in inside, (one, word))

    def test_nine_letters_and_more(self):
        one = product("(ab)c(b)a(c)")
        self.assertIs(product_has(one, "abbacbbac"), True)
        self.assertIs(product_has(one, "abbacbbab"), False)
        self.assertIs(product_has(one, "ab" * 2000 + "c"), True)


class PlainForms(unittest.TestCase):
    def test_ordinary_ones(self):
        for text, plain in (("", ""), ("a", "a"), ("aa", "aa"), ("a(ab)", "(ab)"), ("(ab)b", "(ab)"),
                            ("(a)(a)", "(a)"), ("(a)(ab)", "(ab)"), ("(ab)(a)", "(ab)"), ("(a)(b)", "(a)(b)"),
                            ("a(b)", "a(b)"), ("ab(abc)c(a)", "(abc)"), ("(ab)c(bc)", "(ab)(bc)"), ("abab", "abab"),
                            ("(ab)ca(c)", "(ab)ca(c)"), ("(ab)(c)(bc)a(ab)", "(ab)(bc)(ab)")):
            self.assertEqual(plain_product(product(text)), product(plain), text)

    def test_whatever_the_order(self):
        rng = chance(22)
        for _ in range(1500):
            one = some_product(rng, rng.choice(LETTERS), 7)
            self.assertEqual(plain_product(one), plain_in_any_order(rng, one), one)

    def test_a_plain_one_stays(self):
        rng = chance(23)
        for _ in range(300):
            one = plain_product(some_product(rng, "abc"))
            self.assertEqual(plain_product(one), one)

    def test_the_same_just_where_the_words_are(self):
        rng = chance(24)
        for _ in range(250):
            letters = rng.choice(LETTERS)
            one, other = some_product(rng, letters, 4), some_product(rng, letters, 4)
            same = words_of(one, letters) == words_of(other, letters)
            self.assertIs(plain_product(one) == plain_product(other), same, (one, other))


class Within(unittest.TestCase):
    def test_ordinary_ones(self):
        for less, more, told in (("", "", True), ("", "a", True), ("a", "", False), ("a", "(ab)", True),
                                 ("(a)", "a", False), ("(a)", "(ab)", True), ("(ab)", "(a)(b)", False),
                                 ("(a)(b)", "(ab)", True), ("aa", "a", False), ("aa", "a(a)", True), ("ab", "ba", False),
                                 ("(a)b(a)", "(a)b(b)(a)", True), ("(a)", "b(c)(a)", True), ("a", "ba", True)):
            self.assertIs(product_within(product(less), product(more)), told, (less, more))

    def test_against_all_words(self):
        rng = chance(25)
        for _ in range(250):
            letters = rng.choice(LETTERS)
            one, other = some_product(rng, letters), some_product(rng, letters)
            inside = words_of(one, letters) <= words_of(other, letters)
            self.assertIs(product_within(one, other), inside, (one, other))


class Met(unittest.TestCase):
    def test_ordinary_ones(self):
        for one, other, told in (("", "", [""]), ("", "(ab)", [""]), ("a", "b", [""]), ("a", "a", ["a"]),
                                 ("ab", "ba", ["a", "b"]), ("(ab)", "(bc)", ["(b)"]), ("(ab)", "a", ["a"]),
                                 ("(a)(b)", "(b)(a)", ["(a)", "(b)"]), ("(a)b(a)", "(ab)", ["(a)b(a)"]),
                                 ("(ab)c", "c(ab)", ["(ab)", "c"])):
            expected = tuple(sorted(product(text) for text in told))
            self.assertEqual(products_met(product(one), product(other)), expected, (one, other))
            self.assertEqual(products_met(product(other), product(one)), expected, (other, one))

    def test_against_all_words(self):
        rng = chance(26)
        for _ in range(150):
            letters = rng.choice(LETTERS)
            one, other = some_product(rng, letters, 4), some_product(rng, letters, 4)
            both = words_of(one, letters) & words_of(other, letters)
            self.assertEqual(words_in(products_met(one, other), WORDS[letters]), both, (one, other))

    def test_told_plain(self):
        rng = chance(27)
        for _ in range(200):
            told = products_met(some_product(rng, "abc", 5), some_product(rng, "abc", 5))
            self.assertIsInstance(told, tuple)
            self.assertEqual(told, tuple(sorted(set(told))))
            for one in told:
                self.assertEqual(one, plain_product(one))
                self.assertFalse(any(product_within(one, other) for other in told if other != one))

    def test_a_product_met_with_itself(self):
        rng = chance(28)
        for _ in range(50):
            one = some_product(rng, "abc", 4)
            self.assertEqual(products_met(one, one), (plain_product(one),))

    def test_each_two_ends_are_met_but_once(self):
        # Met again for each way to come there, these would take longer than anyone waits.
        one, other = product("ab" * 20), product("ba" * 20)
        told = products_met(one, other)
        self.assertEqual(told, (product("ab" * 19 + "a"), product("ba" * 19 + "b")))

    def test_told_ones_are_met_again(self):
        first = products_met(product("(ab)c(ab)c(ab)"), product("(bc)a(bc)a(bc)"))
        self.assertEqual(len(first), 6)
        for one in first:
            self.assertEqual(products_met(one, product("(ab)c(ab)c(ab)")), (one,))
            self.assertEqual(products_met(one, product("(abc)")), (one,))

    def test_asked_again_the_same_is_told(self):
        one, other = product("(ab)c"), product("c(ab)")
        first = products_met(one, other)
        products_met(product("abc"), product("cba"))
        self.assertEqual(products_met(one, other), first)
