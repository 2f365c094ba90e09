import unittest

from helper import chance, some_word, subwords
from lostpost.errors import NoHouse
from lostpost.houses import is_above, is_standing, look_house

DEEDS = (("go",), ("send", 0, "a"), ("take", 1, "b"), ("empty", 1), ("set", 1, 0), ("if", 0, 1))


def house(letters="ab", lines=2, flags=2, hands=((3, ()),)):
    return (letters, lines, flags, hands)


def with_rule(rule, **others):
    return house(hands=((3, (rule,)),), **others)


class LookedAt(unittest.TestCase):
    def assert_refused(self, one, word, at):
        with self.assertRaises(NoHouse) as taken:
            look_house(one)
        self.assertEqual((taken.exception.word, taken.exception.at), (word, at), one)

    def test_let_by(self):
        for letters in ("a", "z", "ab", "acz"):
            for lines in (1, 2):
                for flags in (0, 1, 2):
                    for hands in (((1, ()),), ((3, ()), (2, ()))):
                        self.assertIs(look_house((letters, lines, flags, hands)), True)

    def test_each_deed_is_let_by(self):
        for deed in DEEDS:
            for p in range(3):
                for q in range(3):
                    self.assertIs(look_house(with_rule((p, deed, q))), True)
        rules = tuple((0, deed, 1) for deed in DEEDS[:5])
        self.assertIs(look_house(house(hands=((2, rules), (3, rules)))), True)

    def test_letters(self):
        for letters in ("", "abcd", "ba", "aa", "A", "a b", "a\n", "1", "abcdefgh", "\u00e9"):
            self.assert_refused(house(letters=letters), "letters", len(letters))

    def test_lines_flags_and_hands(self):
        for lines in (0, 3, -1, 999, 10 ** 20):
            self.assert_refused(house(lines=lines), "lines", lines)
        for flags in (3, -1, 4, -10 ** 20):
            self.assert_refused(house(flags=flags), "flags", flags)
        for count in (0, 3, 7):
            self.assert_refused(house(hands=((1, ()),) * count), "hands", count)

    def test_rooms_and_rules(self):
        good = (2, ((0, ("go",), 1),))
        for rooms in (0, 4, -1, 10 ** 20):
            self.assert_refused(house(hands=((rooms, ()),)), "rooms", 0)
            self.assert_refused(house(hands=(good, (rooms, ()))), "rooms", 1)
        six = ((0, ("go",), 0),) * 6
        self.assertIs(look_house(house(hands=((1, six[:5]),))), True)
        self.assert_refused(house(hands=((1, six),)), "rules", 0)
        self.assert_refused(house(hands=(good, (1, six))), "rules", 1)

    def test_a_room_that_is_not_there(self):
        for number in (-1, 3, 4, -3, 10 ** 20):
            for deed in DEEDS:
                self.assert_refused(with_rule((number, deed, 0)), "rule", 0)
                self.assert_refused(with_rule((0, deed, number)), "rule", 0)
        self.assert_refused(house(hands=((3, ((2, ("go",), 2),)), (2, ((0, ("go",), 2),)))), "rule", 1)

    def test_a_line_that_is_not_there(self):
        for number in (-1, 2, 3, -2):
            for deed in (("send", number, "a"), ("take", number, "a"), ("empty", number)):
                self.assert_refused(with_rule((0, deed, 0)), "rule", 0)
        for deed in (("send", 1, "a"), ("take", 1, "a"), ("empty", 1)):
            self.assert_refused(with_rule((0, deed, 0), lines=1), "rule", 0)

    def test_a_flag_or_a_value_that_is_not_there(self):
        for name in ("set", "if"):
            for number in (-1, 2, 3, -2):
                self.assert_refused(with_rule((0, (name, number, 0), 0)), "rule", 0)
                self.assert_refused(with_rule((0, (name, 0, number), 0)), "rule", 0)
            self.assert_refused(with_rule((0, (name, 0, 0), 0), flags=0), "rule", 0)
            self.assert_refused(with_rule((0, (name, 1, 0), 0), flags=1), "rule", 0)

    def test_a_letter_that_is_not_there(self):
        for name in ("send", "take"):
            for text in ("c", "", "ab", "A", "aa", " ", "0", "b\n"):
                self.assert_refused(with_rule((0, (name, 0, text), 0)), "rule", 0)

    def test_any_of_the_rules(self):
        good, bad = (0, ("go",), 1), (0, ("go",), 2)
        for place in range(5):
            rules = [good] * 5
            rules[place] = bad
            self.assert_refused(house(hands=((2, tuple(rules)),)), "rule", 0)
            self.assert_refused(house(hands=((2, (good,)), (2, tuple(rules)))), "rule", 1)

    def test_the_first_that_is_due(self):
        bad_rule = ((0, ("go",), 9),)
        worst = [("ba", "letters", 2), (0, "lines", 0), (3, "flags", 3), (((0, bad_rule * 6),) * 3, "hands", 3)]
        fine = ["ab", 1, 0]
        for k, (_, word, at) in enumerate(worst):
            parts = fine[:k] + [part for part, _, _ in worst[k:]]
            self.assert_refused(tuple(parts), word, at)

    def test_hand_by_hand(self):
        bad_rule = ((0, ("go",), 9),)
        for first, word in (((0, bad_rule * 6), "rooms"), ((2, bad_rule * 6), "rules"), ((2, bad_rule), "rule")):
            for second in ((0, bad_rule * 6), (2, bad_rule * 6), (2, ())):
                self.assert_refused(house(hands=(first, second)), word, 0)
                self.assert_refused(house(hands=((1, ()), first)), word, 1)


class Standings(unittest.TestCase):
    def setUp(self):
        self.house = ("ab", 2, 1, ((3, ()), (2, ())))

    def test_its_own(self):
        for p in range(3):
            for q in range(2):
                for f in range(2):
                    for words in (("", ""), ("a", "ba"), ("ab" * 20, "b" * 500)):
                        self.assertIs(is_standing(self.house, ((p, q), (f,), words)), True)
        self.assertIs(is_standing(("z", 1, 0, ((1, ()),)), ((0,), (), ("zz",))), True)

    def test_rooms(self):
        for rooms in ((), (0,), (0, 0, 0), (3, 0), (0, 2), (-1, 0), (0, -1)):
            self.assertIs(is_standing(self.house, (rooms, (0,), ("", ""))), False, rooms)

    def test_flags(self):
        for flags in ((), (0, 0), (2,), (-1,)):
            self.assertIs(is_standing(self.house, ((0, 0), flags, ("", ""))), False, flags)
        self.assertIs(is_standing(("a", 1, 0, ((1, ()),)), ((0,), (0,), ("",))), False)

    def test_words(self):
        for words in ((), ("",), ("", "", ""), ("c", ""), ("", "abc"), ("z" * 40, ""), ("", "ab" * 100 + "c")):
            self.assertIs(is_standing(self.house, ((0, 0), (0,), words)), False, words)


class Above(unittest.TestCase):
    def test_rooms_and_flags_are_the_same(self):
        one = ((0, 1), (1,), ("ab", "a"))
        self.assertIs(is_above(one, one), True)
        self.assertIs(is_above(((1, 1), (1,), ("ab", "a")), one), False)
        self.assertIs(is_above(((0, 0), (1,), ("ab", "a")), one), False)
        self.assertIs(is_above(((0, 1), (0,), ("ab", "a")), one), False)
        self.assertIs(is_above(one, ((0, 1), (0,), ("", ""))), False)

    def test_each_lines_word(self):
        rng = chance(61)
        for _ in range(500):
            more = (some_word(rng, "abc", 4), some_word(rng, "abc", 4))
            less = (some_word(rng, "abc", 2), some_word(rng, "abc", 2))
            above = less[0] in subwords(more[0]) and less[1] in subwords(more[1])
            self.assertIs(is_above(((0,), (), more), ((0,), (), less)), above, (more, less))

    def test_one_line_that_is_not_above(self):
        self.assertIs(is_above(((0,), (), ("abc", "a")), ((0,), (), ("ac", "b"))), False)
        self.assertIs(is_above(((0,), (), ("a", "abc")), ((0,), (), ("b", "ac"))), False)
        self.assertIs(is_above(((0,), (), ("abc", "abc")), ((0,), (), ("ac", "b"))), True)
        self.assertIs(is_above(((0,), (), ("a",)), ((0,), (), ("aa",))), False)

    def test_another_houses(self):
        self.assertIs(is_above(((0,), (), ("a", "")), ((0,), (), ("a",))), False)
        self.assertIs(is_above(((0,), (), ("a",)), ((0, 0), (), ("a",))), False)

    def test_words_of_forty_letters(self):
        self.assertIs(is_above(((0,), (), ("abc" * 13 + "a",)), ((0,), (), ("ac" * 13,))), True)
        self.assertIs(is_above(((0,), (), ("abc" * 13 + "a",)), ((0,), (), ("ca" * 14,))), False)
        self.assertIs(is_above(((0,), (), ("abc" * 13 + "a",)), ((0,), (), ("ca" * 13,))), True)
