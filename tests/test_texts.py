import itertools
import unittest

from helper import chance, product, some_expression
from lostpost.errors import NoText
from lostpost.texts import read_expression, show_expression

SHOWN = (
    ((), "none"),
    (((),), "."),
    (((), ()), ". | ."),
    ((product("a"),), "a?"),
    ((product("(ab)"),), "[ab]"),
    ((product("a(ab)b"), (), product("(z)")), "a? [ab] b? | . | [z]"),
    ((product("(a)(a)"), product("(a)(a)")), "[a] [a] | [a] [a]"),
    ((product("(abcdefghijklmnopqrstuvwxyz)z"),), "[abcdefghijklmnopqrstuvwxyz] z?"),
)
REFUSED = (
    ("", 0), (" ", 0), ("a", 0), ("?", 0), ("A?", 0), ("aa?", 0), ("a??", 0), ("[]", 0), ("[", 0), ("]", 0), ("[a", 0),
    ("a]", 0), ("[ba]", 0), ("[aa]", 0), ("[aB]", 0), ("[a]?", 0), ("[[a]]", 0), ("None", 0), ("nonee", 0), ("|", 0),
    ("..", 0), ("a?\n", 0), ("\na?", 0), ("a?|b?", 0), ("1?", 0), (" a?", 0), ("??", 0), ("[.]", 0),
    ("none none", 1), ("none ", 1), ("none | a?", 1), ("none a?", 1), (". a?", 1), (". .", 1), ("a? .", 1), ("a? none", 1),
    ("a? ", 1), ("a?  b?", 1), ("a? [b] x", 2), ("a? |", 2), (". |", 2), ("a? | ", 2), ("a? | |", 2), ("a? | none", 2),
    ("a? | b? |", 4), ("a? | . b?", 3), ("a? | b? .", 3), (". | . | .. |", 4), ("a? b? [c] | [cb]", 4), ("| a?", 0),
)
VOCABULARY = ("none", ".", "|", "a?", "[ab]", "", "[ba]", "a")


def right_rows(most):
    """All rows of words of at most so many that are an expression's, put together from products."""
    products = [(".",)] + [row for n in range(1, most + 1) for row in itertools.product(("a?", "[ab]"), repeat=n)]
    rows = {("none",)} | set(products)
    longest = set(products)
    while longest:
        longest = {row + ("|",) + one for row in longest for one in products if len(row) + 1 + len(one) <= most}
        rows |= longest
    return rows


class Texts(unittest.TestCase):
    def assert_refused(self, text, at):
        with self.assertRaises(NoText) as taken:
            read_expression(text)
        self.assertEqual(taken.exception.at, at, text[:80])

    def test_shown_and_read(self):
        for expression, text in SHOWN:
            self.assertEqual(show_expression(expression), text)
            self.assertEqual(read_expression(text), expression)

    def test_all_are_read_from_their_texts(self):
        rng = chance(41)
        for _ in range(300):
            expression = some_expression(rng, rng.choice(("a", "abc", "abxyz")), 6, 9)
            self.assertEqual(read_expression(show_expression(expression)), expression)

    def test_of_any_size(self):
        expression = ((("any", "bc"), ("maybe", "a")) * 20000, ()) * 2
        text = show_expression(expression)
        self.assertEqual(read_expression(text), expression)
        self.assert_refused(text + " a?", 80005)

    def test_refused(self):
        for text, at in REFUSED:
            self.assert_refused(text, at)

    def test_each_row_of_few_words(self):
        right = right_rows(6)
        begins = {row[:k] for row in right for k in range(len(row) + 1)}
        for length in range(1, 5):
            for row in itertools.product(VOCABULARY, repeat=length):
                text = " ".join(row)
                if row in right:
                    self.assertEqual(show_expression(read_expression(text)), text)
                else:
                    wrong = [k for k in range(length) if row[:k + 1] not in begins]
                    self.assert_refused(text, wrong[0] if wrong else length)
