import itertools
import unittest

from helper import chance, some_grammar
from lostpost.errors import NoText
from lostpost.grammartexts import read_grammar, show_grammar

GRAMMAR = (2, ((0, ("a", 1, "b")), (1, ()), (1, (0, 0)), (0, ("z",))))
ROWS = ("names 2", "0 = a 1 b", "1 = .", "1 = 0 0", "0 = z")
NUMBERS = (0, 1, 9, 10, 99, 100, 999)
WRONG_NUMBERS = ("", "00", "01", "007", "1000", "-1", "+1", "1.", "1_0", "\u0661", "999999", "12a")


def any_grammar(rng):
    rules = []
    for _ in range(rng.randint(0, 9)):
        body = [rng.choice(NUMBERS) if rng.random() < 0.5 else rng.choice("abmyz") for _ in range(rng.randint(0, 7))]
        rules.append((rng.choice(NUMBERS), tuple(body)))
    return (rng.choice(NUMBERS), tuple(rules))


class Grammartexts(unittest.TestCase):
    def assert_refused(self, text, at):
        with self.assertRaises(NoText) as taken:
            read_grammar(text)
        self.assertEqual(taken.exception.at, at, text[:200])

    def test_shown_and_read(self):
        self.assertEqual(show_grammar(GRAMMAR), "\n".join(ROWS))
        self.assertEqual(read_grammar("\n".join(ROWS)), GRAMMAR)

    def test_each_begin_of_the_rows(self):
        for count in range(1, len(ROWS) + 1):
            grammar = read_grammar("\n".join(ROWS[:count]))
            self.assertEqual(grammar, (2, GRAMMAR[1][:count - 1]))
            self.assertEqual(show_grammar(grammar), "\n".join(ROWS[:count]))

    def test_of_any_form(self):
        rng = chance(131)
        for _ in range(300):
            grammar = rng.choice((any_grammar, some_grammar))(rng)
            self.assertEqual(read_grammar(show_grammar(grammar)), grammar)

    def test_of_any_size(self):
        grammar = (999, ((0, ("a", 999) * 2000),) * 20)
        self.assertEqual(read_grammar(show_grammar(grammar)), grammar)
        self.assert_refused(show_grammar(grammar) + " A", 20)

    def test_no_rows(self):
        for text in ("", "\n", " ", "\nnames 2", "0 = a", "."):
            self.assert_refused(text, 0)

    def test_names(self):
        for wrong in WRONG_NUMBERS:
            self.assert_refused(f"names {wrong}\n0 = a", 0)
            self.assert_refused(f"names 1\n{wrong} = a", 1)
            self.assert_refused(f"names 1\n0 = a\n0 = b {wrong} a", 2)
        for wrong in ("names", "names 2 2", "name 2", "Names 2", " names 2", "names 2 ", "names  2", "names a",
                      "names2", "names 2 = a", "names ."):
            self.assert_refused(wrong + "\n0 = a", 0)

    def test_rules(self):
        for wrong in ("", " ", "0", "0 =", "0 = ", "= a", "0 a", "a = a", "0 == a", "0 = A", "0 = ab", "0 = a  b",
                      "0 = a ", " 0 = a", "0  = a", "0 = . a", "0 = a .", "0 = . .", "0 = ..", "0 = .a", "0 =. ",
                      "0 = = a", "0=a", ". = a", "0 . a", "names 2", "0 = a\t", "0 = a | b", "0 = ?", "hand 2"):
            self.assert_refused(f"names 2\n{wrong}", 1)
            self.assert_refused(f"names 2\n0 = .\n{wrong}\n0 = ?", 2)

    def test_a_rows_end_behind(self):
        for count in range(1, len(ROWS) + 1):
            self.assert_refused("\n".join(ROWS[:count]) + "\n", count)

    def test_each_row_of_few_words(self):
        vocabulary = ("0", "=", "a", ".", "12", "", "?")
        for length in range(1, 6):
            for row in itertools.product(vocabulary, repeat=length):
                text = "names 1\n" + " ".join(row)
                body = row[2:]
                good = body == (".",) or len(body) > 0 and all(word in ("0", "a", "12") for word in body)
                if row[0] in ("0", "12") and row[1:2] == ("=",) and good:
                    self.assertEqual(show_grammar(read_grammar(text)), text)
                else:
                    self.assert_refused(text, 1)
