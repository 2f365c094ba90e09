import unittest

from helper import chance, grammar_by_chance, some_house, some_standing, some_word, subwords
from lostpost.answers import answered
from lostpost.apart import told_apart
from lostpost.desk import Desk
from lostpost.downs import down_of, least_of
from lostpost.errors import LostError, NoGrammar, NoHouse, NoRow, NoText
from lostpost.grammars import word_of
from lostpost.grammartexts import show_grammar
from lostpost.housetexts import show_house, show_standing
from lostpost.runs import deeds
from lostpost.texts import show_expression
from lostpost.trees import tree_above
from lostpost.words import above_both

HOUSE = "house letters ab ; lines 1 ; flags 0 ; hand 2 ; 0 send 0 a 1 ; 1 take 0 b 0"
TWO_LINES = "house letters abc ; lines 2 ; flags 1 ; hand 1 ; 0 set 0 1 0 ; hand 2 ; 0 if 0 1 1 ; 1 send 1 c 0"
# The first has 262 rows ahead of the standing asked, the second just 200.
MANY = ("house letters a ; lines 2 ; flags 0 ; hand 2 ; 0 go 1 ; 1 send 1 a 1 ; hand 3 ; 0 take 1 a 0 ; 0 take 1 a 2 ; "
        "2 send 0 a 1 ; 1 take 1 a 0")
NOT_TOO_MANY = ("house letters ab ; lines 2 ; flags 2 ; hand 3 ; 0 take 0 a 1 ; 1 set 0 1 0 ; 2 take 0 a 0 ; 2 send 0 a 2 ; "
                "hand 3 ; 0 set 1 0 2 ; 1 take 0 a 0 ; 1 take 0 b 0 ; 2 send 1 a 1")
GRAMMAR = "grammar names 1 ; 0 = a 0 b ; 0 = c"


def dotted(words):
    return [word or "." for word in words]


class DeskCase(unittest.TestCase):
    def setUp(self):
        self.desk = Desk()

    def assert_says(self, row, text):
        self.assertEqual(self.desk.say(row), text, row)

    def assert_refused(self, row, kind=NoRow, **fields):
        with self.assertRaises(LostError) as taken:
            self.desk.say(row)
        self.assertIs(taken.exception.__class__, kind, row)
        for name, value in fields.items():
            self.assertEqual(getattr(taken.exception, name), value, row)

    def assert_all_refused(self, rows):
        for row in rows:
            self.assert_refused(row)


class Kept(DeskCase):
    def test_houses_and_grammars(self):
        for row in (HOUSE, TWO_LINES, HOUSE, GRAMMAR, "grammar names 3", "grammar names 1 ; 0 = ."):
            self.assert_says(row, "kept")

    def test_all_by_chance(self):
        rng = chance(281)
        for _ in range(100):
            self.assert_says("house " + show_house(some_house(rng)).replace("\n", " ; "), "kept")
            self.assert_says("grammar " + show_grammar(grammar_by_chance(rng)).replace("\n", " ; "), "kept")

    def test_houses_that_have_no_text(self):
        for row, at in (("house ", 0), ("house  ", 0), ("house letters ab", 1), ("house letters ab ; lines 1", 2),
                        ("house  letters ab ; lines 1 ; flags 0 ; hand 1", 0), (HOUSE + " ", 5), (HOUSE + " ;", 5),
                        (HOUSE + " ; ", 6), (HOUSE.replace(" ; 1 take", " ;  1 take"), 5), ("house ;", 0), ("house  ; ", 0),
                        (HOUSE.replace(" ; lines", "; lines"), 0), (HOUSE.replace(" ; hand", " ;  ; hand"), 3),
                        (HOUSE + " ; 0 go", 6), ("house kept", 0), ("house house " + HOUSE[6:], 0)):
            self.assert_refused(row, NoText, at=at)

    def test_line_feeds_part_no_rows(self):
        self.assert_refused(HOUSE.replace(" ; ", "\n"), NoText, at=0)
        self.assert_refused(HOUSE.replace(" ; 1", "\n1"), NoText, at=4)
        self.assert_refused(HOUSE.replace(" ; 1", " \n 1"), NoText, at=4)
        self.assert_refused(GRAMMAR.replace(" ; ", "\n"), NoText, at=0)

    def test_houses_that_are_not_let_by(self):
        for row, word, at in (("house letters abcd ; lines 9 ; flags 0", "letters", 4),
                              ("house letters ab ; lines 3 ; flags 9", "lines", 3),
                              ("house letters ab ; lines 1 ; flags 3", "flags", 3),
                              ("house letters ab ; lines 1 ; flags 0", "hands", 0),
                              (HOUSE + " ; hand 4", "rooms", 1), (HOUSE.replace("hand 2", "hand 1"), "rule", 0),
                              (HOUSE + " ; hand 1" + " ; 0 go 0" * 6, "rules", 1)):
            self.assert_refused(row, NoHouse, word=word, at=at)

    def test_the_text_ahead_of_the_look(self):
        self.assert_refused("house letters abcd ; lines 1 ; flags 0 ; hands", NoText, at=3)
        self.assert_refused("grammar names 9 ; 0 =", NoText, at=1)

    def test_grammars_that_have_no_text(self):
        for row, at in (("grammar ", 0), ("grammar  ", 0), ("grammar  names 1", 0), ("grammar names 1 ; ", 1),
                        ("grammar names 1 ;", 0), ("grammar names 1 ; 0 = a ; 0 =", 2), ("grammar 0 = a", 0),
                        ("grammar names 1 ; 0 = a  b", 1), ("grammar ;", 0)):
            self.assert_refused(row, NoText, at=at)

    def test_grammars_that_are_not_let_by(self):
        for row, at in (("grammar names 0", -1), ("grammar names 4 ; 0 = a", -1), ("grammar names 1 ; 0 = a ; 0 = 1", 1),
                        ("grammar names 1 ; 0 = a b a b", 0), ("grammar names 1" + " ; 0 = ." * 7, 7)):
            self.assert_refused(row, NoGrammar, at=at)

    def test_without_a_blank(self):
        self.assert_all_refused(("house", "grammar", "house;", "grammar\n", "housenames 1"))

    def test_what_is_refused_changes_nothing(self):
        reach, asks = "reach 1 / / ab | 0 / / b", ("down", "least", "above a")
        self.assert_all_refused((reach,) + asks)
        for row in ("house ", "house letters abcd ; lines 1 ; flags 0", "grammar ", "grammar names 0"):
            self.assert_refused(row, {"house ": NoText, "grammar ": NoText, "grammar names 0": NoGrammar}.get(row, NoHouse))
            self.assert_all_refused((reach,) + asks)
        self.assert_says(HOUSE, "kept")
        self.assert_says(GRAMMAR, "kept")
        told = [self.desk.say(row) for row in (reach,) + asks]
        self.assertEqual(told, ["never 2", "[a] c? [b]", "c", "acb"])
        for row, kind in (("house ", NoText), ("house letters ab ; lines 1 ; flags 0", NoHouse), ("grammar ", NoText),
                          ("grammar names 1 ; 0 = 1", NoGrammar), ("reach 2 / / . | 0 / / .", NoRow), ("down .", NoRow),
                          ("above A", NoRow), ("", NoRow), ("grammar names 2 ; ?", NoText), ("house letters a", NoText)):
            self.assert_refused(row, kind)
            self.assertEqual([self.desk.say(row) for row in (reach,) + asks], told)

    def test_another_one_kept(self):
        self.assert_says(GRAMMAR, "kept")
        self.assert_says("least", "c")
        self.assert_says("grammar names 1 ; 0 = b", "kept")
        self.assert_says("least", "b")
        self.assert_says(HOUSE, "kept")
        self.assert_says(TWO_LINES, "kept")
        self.assert_refused("reach 1 / / ab | 0 / / b")
        self.assert_says("least", "b")


class Reach(DeskCase):
    def test_ordinary_ones(self):
        self.desk.say(HOUSE)
        for row, text in (("reach 1 / / ab | 1 / / a", "run 0"), ("reach 1 / / ab | 0 / / .", "run 1"),
                          ("reach 1 / / ab | 0 / / b", "never 2"), ("reach 0 / / . | 1 / / a", "run 1"),
                          ("reach 0 / / bbbb | 1 / / aa", "run 3"), ("reach 0 / / abab | 0 / / abab", "run 0")):
            self.assert_says(row, text)

    def test_lines_and_flags(self):
        self.desk.say(TWO_LINES)
        self.assert_says("reach 0 0 / 0 / . . | 0 0 / 1 / . c", "run 3")
        self.assert_says("reach 0 0 / 0 / . . | 0 1 / 1 / . cccc", "run 10")
        self.assert_says("reach 0 0 / 1 / abca . | 0 0 / 0 / . .", "never 2")

    def test_many(self):
        self.desk.say(MANY)
        for begin in ("1 0 / / aaaa aaaa", "0 0 / / . .", "0 2 / / a aa"):
            self.assert_says(f"reach {begin} | 1 0 / / aaaa aaaa", "many")
        self.assert_says("reach 1 0 / / aa aa | 1 0 / / aa aa", "run 0")
        self.desk.say(NOT_TOO_MANY)
        self.assert_says("reach 0 0 / 1 0 / . . | 0 0 / 1 0 / . .", "run 0")

    def test_without_a_house(self):
        self.assert_all_refused(("reach 0 / / . | 0 / / .", "reach"))
        self.desk.say(GRAMMAR)
        self.assert_refused("reach 0 / / . | 0 / / .")

    def test_no_two_standings(self):
        self.desk.say(HOUSE)
        good = "0 / / ab"
        for bad in ("", "2 / / .", "0 / 0 / .", "0 / / c", "0 / / . .", "0 0 / / .", "00 / / .", "0 / /", "0 / / ", "0 / / A",
                    " 0 / / .", "0 / / . ", "0 / .", "/ / .", "x", "0 / / a.", "0 / / /", "-1 / / .", "0  / / ."):
            self.assert_all_refused((f"reach {good} | {bad}", f"reach {bad} | {good}", f"reach {bad} | {bad}"))
        self.assert_all_refused(("reach", "reach ", f"reach {good}", f"reach {good} |", f"reach | {good}", f"reach {good} {good}",
                                 f"reach {good} | {good} | {good}", f"reach {good} || {good}", f"reach {good}|{good}",
                                 f"reach  {good} | {good}", f"reach {good} |  {good}", f"reach {good} ; {good}",
                                 f"reach {good} | {good} |", f"reach {good} | {good} ", f"reach {good}\n| {good}"))

    def test_words_of_more_than_four_letters(self):
        self.desk.say(HOUSE)
        self.assert_says("reach 0 / / aaaa | 0 / / aaaa", "run 0")
        self.assert_all_refused(("reach 0 / / aaaaa | 0 / / a", "reach 0 / / a | 0 / / aaaaa"))
        self.desk.say(TWO_LINES)
        self.assert_all_refused(("reach 0 0 / 0 / . abcab | 0 0 / 0 / . .", "reach 0 0 / 0 / . . | 0 0 / 0 / abcab ."))

    def test_by_chance(self):
        rng = chance(282)
        said = {}
        for _ in range(150):
            house = some_house(rng)
            self.desk.say("house " + show_house(house).replace("\n", " ; "))
            for _ in range(4):
                begin, asked = some_standing(rng, house), some_standing(rng, house)
                kind, told = answered(house, begin, asked)
                said[kind] = said.get(kind, 0) + 1
                count = deeds(told) if kind == "run" else len(told)
                self.assert_says(f"reach {show_standing(begin)} | {show_standing(asked)}", f"{kind} {count}")
        self.assertTrue(all(said.get(kind, 0) > 50 for kind in ("run", "never")), said)


class OfGrammars(DeskCase):
    def test_ordinary_ones(self):
        self.desk.say(GRAMMAR)
        for row, text in (("down", "[a] c? [b]"), ("least", "c"), ("above .", "c"), ("above ab", "acb"),
                          ("above aacbbb", "aaacbbb"), ("above ba", "none"), ("above xyz", "none")):
            self.assert_says(row, text)

    def test_no_words(self):
        for text in ("names 1", "names 2 ; 1 = a", "names 1 ; 0 = 0"):
            self.desk.say("grammar " + text)
            for row in ("down", "least", "above .", "above a"):
                self.assert_says(row, "none")

    def test_the_word_without_letters(self):
        self.desk.say("grammar names 1 ; 0 = . ; 0 = 0 0")
        for row, text in (("down", "."), ("least", "."), ("above .", "."), ("above a", "none")):
            self.assert_says(row, text)

    def test_several_words(self):
        self.desk.say("grammar names 1 ; 0 = c a ; 0 = b ; 0 = a c")
        self.assert_says("least", "b ac ca")
        self.assert_says("down", "a? c? | b? | c? a?")

    def test_the_word_none(self):
        self.desk.say("grammar names 2 ; 0 = n o 1 ; 1 = n e")
        self.assert_says("least", "none")
        self.assert_says("above .", "none")
        self.assert_says("above none", "none")
        self.assert_says("above noon", "none")
        self.assert_says("under none none", "yes")
        self.assert_says("meet none none", "none")

    def test_without_a_grammar(self):
        rows = ("down", "least", "above a", "above .")
        self.assert_all_refused(rows)
        self.desk.say(HOUSE)
        self.assert_all_refused(rows)

    def test_none_of_these_rows(self):
        self.desk.say(GRAMMAR)
        self.assert_all_refused(("down ", "down .", "down a", " down", "Down", "down\n", "least ", "least a", "least least",
                                 "above", "above ", "above  ", "above a b", "above a ", "above  a", "above A", "above a.",
                                 "above ..", "above a1", "above |", "above a\n", "above none ."))

    def test_long_words_and_many_letters(self):
        self.desk.say(GRAMMAR)
        self.assert_says("above aaabbb", "aaacbbb")
        self.assert_says("above xyzzyx", "none")
        self.assert_all_refused(("above aaaaaaa", "above aaaabbb", "above abcd", "above wxyz"))

    def test_by_chance(self):
        rng = chance(283)
        for _ in range(150):
            grammar = grammar_by_chance(rng)
            self.desk.say("grammar " + show_grammar(grammar).replace("\n", " ; "))
            self.assert_says("down", show_expression(down_of(grammar)))
            self.assert_says("least", " ".join(dotted(least_of(grammar))) or "none")
            for _ in range(3):
                word = some_word(rng, "abc", 6)
                tree = tree_above(grammar, word)
                told = "none" if tree is None else word_of(grammar, tree) or "."
                self.assert_says(f"above {word or '.'}", told)


class OfWords(DeskCase):
    def test_under(self):
        for row, text in (("under ab acb", "yes"), ("under ba acb", "no"), ("under . .", "yes"), ("under . a", "yes"),
                          ("under a .", "no"), ("under abcabcabc abcabcabc", "yes"), ("under none none", "yes")):
            self.assert_says(row, text)

    def test_meet(self):
        for row, text in (("meet ab ba", "aba bab"), ("meet . .", "."), ("meet . ab", "ab"), ("meet a b", "ab ba"),
                          ("meet none none", "none"), ("meet aaaaa aaaaa", "aaaaa")):
            self.assert_says(row, text)

    def test_wrong_counts_and_words(self):
        for kind in ("under", "meet"):
            for rest in ("", " ", " a", " a b c", "  a b", " a  b", " a b ", " A b", " a B", " a b.", " .. a", " a|b", " a | b",
                         " a 1", " 1 a", " a\n b", "\na b", " a b\n", " \u00e9 a"):
                self.assert_refused(kind + rest)

    def test_words_that_are_too_long(self):
        nine = "abcabcabc"
        self.assert_says(f"under abc {nine}", "yes")
        self.assert_says(f"under {nine} abc", "no")
        self.assert_all_refused((f"under a {nine}a", f"under {nine}a a", "meet aaaaaa a", "meet a aaaaaa",
                                 "apart 1 aaaaaa | a", "apart 1 a | aaaaaa"))

    def test_more_than_three_unlike_letters(self):
        self.assert_says("under xyz xyz", "yes")
        self.assert_all_refused(("under abcd abcd", "under ab cd", "under . abcd", "meet ab cd", "meet abcd .",
                                 "apart 1 ab | cd", "apart 1 a b | c d", "apart 1 abcd | a", "apart 2 a | b c d"))

    def test_apart(self):
        for row, text in (("apart 1 a | b", "questions 1"), ("apart 0 a | b", "alike a b"), ("apart 1 ab . | ba", "alike ab ba"),
                          ("apart 1 a b | . ab", "questions 2"), ("apart 3 . | .", "alike . ."), ("apart 1 . | a", "questions 1"),
                          ("apart 2 a a a a | b b b b", "questions 1"), ("apart 3 aaa | aaaa", "alike aaa aaaa"),
                          ("apart 0 . | none", "alike . none")):
            self.assert_says(row, text)

    def test_apart_with_wrong_counts(self):
        self.assert_all_refused(("apart", "apart ", "apart 1", "apart 1 ", "apart 1 |", "apart 1 a |", "apart 1 | a", "apart 1 a | ",
                                 "apart 1 a b", "apart 1 a | b | c", "apart 1 a || b", "apart 1 a |  b", "apart 1  a | b",
                                 "apart 1 a | b ", "apart 1 a b a b a | c", "apart 1 c | a b a b a", "apart a | b",
                                 "apart | a", "apart 1 | a | b", "apart 1 a | |", "apart 1 a|b"))

    def test_apart_with_wrong_figures(self):
        for figure in ("4", "5", "9", "-1", "00", "01", "10", "", "x", "a", ".", "1.", "+1", "|"):
            self.assert_refused(f"apart {figure} a | b")

    def test_apart_with_wrong_words(self):
        self.assert_all_refused(("apart 1 A | b", "apart 1 a | B", "apart 1 .. | b", "apart 1 a | b.", "apart 1 a, | b"))

    def test_none_of_the_rows(self):
        self.assert_all_refused(("", " ", ".", "kept", "none", "yes", "Under a b", "undera b", " under a b", "above", "told a",
                                 "apart1 a | b", "\n", "under\ta b", "below a b", "say down",
                                 "told 1 a | b", "part 1 a | b", " 1 a | b", "1 a | b", "apartt 1 a | b", "met a b"))

    def test_by_chance(self):
        rng = chance(284)
        for _ in range(400):
            one, other = some_word(rng, "abc", 9), some_word(rng, "abc", 9)
            self.assert_says(" ".join(["under"] + dotted((one, other))), "yes" if one in subwords(other) else "no")
            one, other = one[:5], other[:5]
            self.assert_says(" ".join(["meet"] + dotted((one, other))), " ".join(dotted(above_both(one, other))))
            ones = tuple(some_word(rng, "abc", 5) for _ in range(rng.randint(1, 4)))
            others = tuple(some_word(rng, "abc", 5) for _ in range(rng.randint(1, 4)))
            n = rng.randint(0, 3)
            told = told_apart(ones, others, n)
            text = " ".join(dotted(told)) if told[0] == "alike" else f"questions {len(told[1])}"
            self.assert_says(" ".join(["apart", str(n)] + dotted(ones) + ["|"] + dotted(others)), text)


class SeveralDesks(unittest.TestCase):
    def test_by_turns(self):
        one, other = Desk(), Desk()
        self.assertEqual(one.say(GRAMMAR), "kept")
        self.assertRaises(NoRow, other.say, "least")
        self.assertEqual(other.say("grammar names 1 ; 0 = b"), "kept")
        self.assertEqual((one.say("least"), other.say("least"), one.say("least")), ("c", "b", "c"))
        self.assertEqual(other.say(HOUSE), "kept")
        self.assertRaises(NoRow, one.say, "reach 0 / / . | 0 / / .")
        self.assertEqual(other.say("reach 0 / / . | 0 / / ."), "run 0")
        self.assertRaises(NoRow, Desk().say, "least")

    def test_asked_again_the_same_is_told(self):
        desk = Desk()
        rows = ("down", "least", "above a", "under a b", "meet a b", "apart 1 a | b", "reach 0 / / . | 1 / / a")
        for row in (HOUSE, GRAMMAR):
            desk.say(row)
        first = [desk.say(row) for row in rows]
        self.assertEqual([desk.say(row) for row in reversed(rows)], first[::-1])
