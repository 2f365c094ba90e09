import unittest

from helper import all_words, chance, made, some_machine
from lostpost.machines import grammar_of


def has_way(machine, word):
    _, begin, ends, arrows = machine
    here = {begin}
    for letter in word:
        here = {q for p, x, q in arrows if p in here and x == letter}
    return bool(here & set(ends))


class Machines(unittest.TestCase):
    def assert_words(self, machine, words, most=4):
        grammar = grammar_of(machine)
        self.assertTrue(all(0 <= name < grammar[0] for name, _ in grammar[1]))
        self.assertEqual(made(grammar, most)[0], set(words), machine)

    def test_without_arrows(self):
        self.assert_words((1, 0, (), ()), ())
        self.assert_words((1, 0, (0,), ()), ("",))
        self.assert_words((4, 3, (0, 1, 2), ()), ())
        self.assert_words((4, 3, (0, 3), ()), ("",))

    def test_without_ends(self):
        self.assert_words((2, 1, (), ((0, "a", 1), (1, "a", 0))), ())

    def test_words_that_come_by_no_way(self):
        self.assert_words((3, 1, (2,), ((0, "a", 2), (1, "b", 0), (2, "c", 1), (0, "a", 2))), ("ba",), 4)
        self.assert_words((3, 0, (2,), ((2, "a", 0), (0, "b", 1))), ())

    def test_ways_that_go_round(self):
        self.assert_words((1, 0, (0,), ((0, "a", 0),)), ("", "a", "aa", "aaa", "aaaa"))
        self.assert_words((2, 1, (1,), ((1, "a", 0), (0, "b", 1))), ("", "ab", "abab"))

    def test_a_begin_other_than_room_0(self):
        machine = (4, 2, (0,), ((2, "a", 3), (3, "b", 0), (0, "c", 2), (1, "a", 1)))
        self.assert_words(machine, ("ab",))
        self.assert_words(machine, ("ab", "abcab"), 5)

    def test_against_walking(self):
        rng = chance(141)
        for _ in range(400):
            machine = some_machine(rng)
            self.assert_words(machine, [word for word in all_words("abc", 4) if has_way(machine, word)])

    def test_the_form(self):
        rng = chance(142)
        for _ in range(100):
            names, rules = grammar_of(some_machine(rng))
            self.assertIsInstance(rules, tuple)
            for name, body in rules:
                self.assertIsInstance(body, tuple)
                self.assertTrue(all(thing in range(names) or thing in ("a", "b", "c") for thing in body))
