import itertools
import unittest

from helper import chance, some_house, some_standing, some_word
from lostpost.errors import NoText
from lostpost.houses import is_standing
from lostpost.housetexts import read_house, read_standing, show_house, show_standing

HOUSE = ("abc", 2, 1, ((3, ((0, ("go",), 1), (0, ("send", 0, "a"), 1), (0, ("take", 0, "a"), 1), (0, ("empty", 0), 1),
                            (0, ("set", 0, 1), 1), (0, ("if", 0, 1), 1))),))
ROWS = ("letters abc", "lines 2", "flags 1", "hand 3", "0 go 1", "0 send 0 a 1", "0 take 0 a 1", "0 empty 0 1",
        "0 set 0 1 1", "0 if 0 1 1")
HEAD = "letters ab\nlines 1\nflags 0\n"
WRONG_NUMBERS = ("", "00", "01", "007", "1000", "-1", "+1", "1.", "x", "1_0", "\u0661", "0x1", "999999", "000", "12a")
RULES = ("{} go 1", "0 go {}", "{} send 0 a 1", "0 send {} a 1", "0 send 0 a {}", "{} take 0 a 1", "0 take {} a 1",
         "0 take 0 a {}", "{} empty 0 1", "0 empty {} 1", "0 empty 0 {}", "{} set 0 1 1", "0 set {} 1 1",
         "0 set 0 {} 1", "0 set 0 1 {}", "{} if 0 1 1", "0 if {} 1 1", "0 if 0 {} 1", "0 if 0 1 {}")
NUMBERS = (0, 1, 2, 9, 10, 99, 100, 101, 500, 999)
ALL_LETTERS = "abcdefghijklmnopqrstuvwxyz"


def any_number(rng):
    return rng.choice(NUMBERS)


def any_deed(rng):
    kind = rng.choice(("go", "send", "take", "empty", "set", "if"))
    rest = {"go": "", "send": "0a", "take": "0a", "empty": "0", "set": "00", "if": "00"}[kind]
    return (kind,) + tuple(any_number(rng) if sign == "0" else rng.choice(ALL_LETTERS) for sign in rest)


def any_house(rng):
    letters = "".join(sorted(rng.sample(ALL_LETTERS, rng.randint(1, 26))))
    hands = []
    for _ in range(rng.randint(0, 5)):
        rules = tuple((any_number(rng), any_deed(rng), any_number(rng)) for _ in range(rng.randint(0, 8)))
        hands.append((any_number(rng), rules))
    return (letters, any_number(rng), any_number(rng), tuple(hands))


class Refusing(unittest.TestCase):
    def assert_no_house(self, text, at):
        with self.assertRaises(NoText) as taken:
            read_house(text)
        self.assertEqual(taken.exception.at, at, text[:200])


class Houses(Refusing):
    def test_shown_and_read(self):
        self.assertEqual(show_house(HOUSE), "\n".join(ROWS))
        self.assertEqual(read_house("\n".join(ROWS)), HOUSE)

    def test_each_begin_of_the_rows(self):
        for count in range(3, len(ROWS) + 1):
            house = read_house("\n".join(ROWS[:count]))
            self.assertEqual(show_house(house), "\n".join(ROWS[:count]))
        self.assertEqual(read_house("\n".join(ROWS[:3])), ("abc", 2, 1, ()))
        self.assertEqual(read_house("\n".join(ROWS[:4])), ("abc", 2, 1, ((3, ()),)))

    def test_several_hands(self):
        house = ("z", 0, 999, ((0, ()), (999, ((7, ("if", 100, 55), 8),)), (1, ()), (2, ((0, ("go",), 0),) * 2)))
        text = "letters z\nlines 0\nflags 999\nhand 0\nhand 999\n7 if 100 55 8\nhand 1\nhand 2\n0 go 0\n0 go 0"
        self.assertEqual(show_house(house), text)
        self.assertEqual(read_house(text), house)

    def test_of_any_form(self):
        rng = chance(71)
        for _ in range(300):
            house = rng.choice((any_house, some_house))(rng)
            self.assertEqual(read_house(show_house(house)), house)

    def test_kinds(self):
        letters, lines, flags, hands = read_house("\n".join(ROWS))
        self.assertTrue(isinstance(hands, tuple) and isinstance(hands[0], tuple) and isinstance(hands[0][1], tuple))
        self.assertEqual({type(rule) for rule in hands[0][1]} | {type(rule[1]) for rule in hands[0][1]}, {tuple})

    def test_of_any_size(self):
        house = ("ab", 1, 0, ((2, ((0, ("send", 0, "a"), 1),) * 3000),) * 3)
        self.assertEqual(read_house(show_house(house)), house)
        self.assert_no_house(show_house(house) + "\n0 go", 3 + 3 * 3001)


class NoHouses(Refusing):
    def test_rows_that_lack(self):
        self.assert_no_house("letters a", 1)
        self.assert_no_house("letters a\nlines 1", 2)

    def test_no_rows(self):
        self.assert_no_house("", 0)
        self.assert_no_house("\n", 0)
        self.assert_no_house("\n" + "\n".join(ROWS), 0)

    def test_a_row_left_out_or_twice(self):
        for at in range(3):
            self.assert_no_house("\n".join(ROWS[:at] + ROWS[at + 1:]), at)
            self.assert_no_house("\n".join(ROWS[:at + 1] + ROWS[at:]), at + 1)
        self.assert_no_house("\n".join(ROWS[:3] + ROWS[4:]), 3)

    def test_a_row_without_signs(self):
        for at in range(len(ROWS) + 1):
            self.assert_no_house("\n".join(ROWS[:at] + ("",) + ROWS[at:]), at)

    def test_blanks_and_words_too_many(self):
        for at, row in enumerate(ROWS):
            for wrong in (" " + row, row + " ", row.replace(" ", "  ", 1), row + " 1", row + " a", row.upper(),
                          row.rpartition(" ")[0], row.replace(" ", "\t"), row.replace(" ", "", 1), "x" + row,
                          row + ".", "0 " + row):
                self.assert_no_house("\n".join(ROWS[:at] + (wrong,) + ROWS[at + 1:]), at)

    def test_letters(self):
        for wrong in ("", "ba", "aa", "aB", "a1", "a-", "abcdefghijklmnopqrstuvwxyza"):
            self.assert_no_house(f"letters {wrong}\nlines 1\nflags 0", 0)

    def test_numbers(self):
        for wrong in WRONG_NUMBERS:
            self.assert_no_house(f"letters a\nlines {wrong}\nflags 0", 1)
            self.assert_no_house(f"letters a\nlines 0\nflags {wrong}", 2)
            self.assert_no_house(HEAD + f"hand {wrong}", 3)
            self.assert_no_house(HEAD + f"hand 1\nhand {wrong}", 4)
            for rule in RULES:
                self.assert_no_house(HEAD + "hand 2\n" + rule.format(wrong), 4)
        for number in NUMBERS:
            for rule in RULES:
                text = HEAD + "hand 2\n" + rule.format(number)
                self.assertEqual(show_house(read_house(text)), text)

    def test_a_rules_letter(self):
        for wrong in ("", "A", "aa", "1", "0", "ab", ".", "{"):
            for name in ("send", "take"):
                self.assert_no_house(HEAD + f"hand 2\n0 go 1\n0 {name} 0 {wrong} 1", 5)

    def test_deeds(self):
        for wrong in ("0 gone 1", "0 1", "go", "0 go", "go 1", "0 go 0 1", "0 send 0 1", "0 send a 0 1", "0 empty 1",
                      "0 empty 0 0 1", "0 set 0 1", "0 set 0 1 1 1", "0 if 0 1", "0 lose 0 1", "0 empty a 1", "0",
                      "0 empty 0 a 1", "0 set 0 a 1", "0 if a 1 1", "0 go a", "0 Go 1", "hand", "hand 1 1", "hands 1"):
            self.assert_no_house(HEAD + "hand 2\n" + wrong, 4)

    def test_a_rule_ahead_of_all_hands(self):
        self.assert_no_house(HEAD + "0 go 0", 3)
        self.assert_no_house(HEAD + "0 go 0\nhand 1", 3)

    def test_a_rows_end_behind(self):
        for count in range(1, len(ROWS) + 1):
            self.assert_no_house("\n".join(ROWS[:count]) + "\n", count)

    def test_the_first_of_several(self):
        self.assert_no_house("letters a\nlines 01\nflags x", 1)
        self.assert_no_house(HEAD + "hand 1\n0 go 0\n0 run 0\nhand x", 5)


class Standings(unittest.TestCase):
    def assert_no_standing(self, house, text):
        with self.assertRaises(NoText) as taken:
            read_standing(house, text)
        self.assertEqual(taken.exception.at, 0)

    def test_shown_and_read(self):
        without_flags = ("ab", 2, 0, ((3, ()), (3, ())))
        with_flags = ("ab", 1, 2, ((2, ()),))
        for house, standing, text in ((without_flags, ((0, 1), (), ("ab", "")), "0 1 / / ab ."),
                                      (without_flags, ((2, 2), (), ("", "")), "2 2 / / . ."),
                                      (with_flags, ((1,), (0, 1), ("b",)), "1 / 0 1 / b")):
            self.assertEqual(show_standing(standing), text)
            self.assertEqual(read_standing(house, text), standing)

    def test_all_are_read_from_their_texts(self):
        rng = chance(72)
        for _ in range(300):
            house = some_house(rng)
            standing = some_standing(rng, house, rng.choice((0, 4, 40)))
            self.assertEqual(read_standing(house, show_standing(standing)), standing)

    def test_words_of_forty_letters_and_more(self):
        house = ("ab", 2, 0, ((1, ()),))
        for length in (40, 5000):
            standing = ((0,), (), ("ab" * length, "b" * length))
            self.assertEqual(read_standing(house, show_standing(standing)), standing)

    def test_refused(self):
        house = ("ab", 2, 1, ((2, ()), (3, ())))
        self.assertEqual(read_standing(house, "1 2 / 1 / ab ."), ((1, 2), (1,), ("ab", "")))
        for text in ("", " ", "/", "/ /", "1 2 / 1 / ab", "1 2 / 1 / ab . .", "1 / 1 / ab .", "1 2 0 / 1 / ab .",
                     "2 2 / 1 / ab .", "1 3 / 1 / ab .", "1 2 / 2 / ab .", "1 2 / / ab .", "1 2 / 1 1 / ab .",
                     "1 2 / 1 / ac .", "1 2 / 1 / A .", "1 2 / 1 / ab ..", "1 2 / 1 / .a .", "1 2 / 1 / ab ",
                     " 1 2 / 1 / ab .", "1  2 / 1 / ab .", "1 2 / 1 / ab  .", "1 2 / 1 / ab . ", "1 2 / 1 / ab .\n",
                     "01 2 / 1 / ab .", "1 02 / 1 / ab .", "1 2 / 01 / ab .", "-1 2 / 1 / ab .", "1 +2 / 1 / ab .",
                     "1 2 / 1 / ab . /", "/ 1 2 / 1 / ab .", "1 2 / 1 / / .", "1 2 1 / ab .", "1 2 / 1 ab .",
                     "1 2 1 ab .", "1 2/1/ab .", "1 2 / x / ab .", "x 2 / 1 / ab .", "1 2 // 1 / ab .", "1 2 / 1 /  .",
                     "1 2 / 1 / . 1", "1 2 / 1 / 0 .", "1 2 /  / ab .", "1 2 / 1 | ab .", "1 9999 / 1 / ab .",
                     "1 \u0662 / 1 / ab ."):
            self.assert_no_standing(house, text)

    def test_without_flags(self):
        house = ("a", 1, 0, ((1, ()),))
        self.assertEqual(read_standing(house, "0 / / ."), ((0,), (), ("",)))
        for text in ("0 /  / .", "0 / .", "0 // .", "0 / 0 / .", "0 / /", "0 / / ", "0 / / . .", "/ / .", "0 / / b"):
            self.assert_no_standing(house, text)

    def test_each_row_of_few_words(self):
        house = ("a", 1, 1, ((2, ()),))
        right = {f"{p} / {f} / {word}" for p in (0, 1) for f in (0, 1) for word in (".", "a", "aa")}
        for row in itertools.product(("0", "1", "2", "/", ".", "a", ""), repeat=5):
            text = " ".join(row)
            if text in right:
                self.assertEqual(show_standing(read_standing(house, text)), text)
            else:
                self.assert_no_standing(house, text)

    def test_of_other_houses(self):
        rng = chance(73)
        for _ in range(300):
            one, other = some_house(rng), some_house(rng)
            standing = some_standing(rng, other)
            if is_standing(one, standing):
                self.assertEqual(read_standing(one, show_standing(standing)), standing)
            else:
                self.assert_no_standing(one, show_standing(standing))

    def test_letters_that_are_none_of_the_houses(self):
        rng = chance(74)
        house = ("bd", 1, 0, ((1, ()),))
        for _ in range(200):
            word = some_word(rng, "abcde", 3, 1)
            if set(word) <= set("bd"):
                self.assertEqual(read_standing(house, "0 / / " + word)[2], (word,))
            else:
                self.assert_no_standing(house, "0 / / " + word)
