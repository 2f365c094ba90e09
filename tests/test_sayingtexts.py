import unittest

from helper import chance, some_saying
from lostpost.errors import NoText
from lostpost.sayingtexts import read_saying, show_saying

# What a saying (S), a word (W), the rest of one (R) may go on with; L stands for any letter.
WAYS = {"S": ("yes", "no", "(in W)", "(not S)", "(and S S)", "(or S S)"), "W": (".", "LR"), "R": ("", "LR")}


def opened(rests):
    """All rests that begin with a sign, or have none."""
    told, waiting = set(), list(rests)
    while waiting:
        rest = waiting.pop()
        if rest[:1] in WAYS:
            waiting.extend(way + rest[1:] for way in WAYS[rest[0]])
        else:
            told.add(rest)
    return told


def fault_by_hand(text):
    """The place of the first sign with which no saying's text goes on, how many signs there are, or None."""
    rests = {"S"}
    for at, sign in enumerate(text):
        rests = {rest[1:] for rest in opened(rests)
                 if rest[:1] == sign or rest[:1] == "L" and "a" <= sign <= "z"}
        if not rests:
            return at
    return None if "" in opened(rests) else len(text)


class Sayingtexts(unittest.TestCase):
    def assert_refused(self, text, at):
        with self.assertRaises(NoText) as taken:
            read_saying(text)
        self.assertEqual(taken.exception.at, at, text)

    def test_shown_and_read(self):
        for saying, text in ((("yes",), "yes"), (("no",), "no"), (("in", "ab"), "(in ab)"), (("in", ""), "(in .)"),
                             (("not", ("yes",)), "(not yes)"), (("and", ("no",), ("in", "c")), "(and no (in c))"),
                             (("or", ("not", ("in", "")), ("yes",)), "(or (not (in .)) yes)"),
                             (("and", ("or", ("yes",), ("no",)), ("not", ("no",))), "(and (or yes no) (not no))"),
                             (("in", "yes"), "(in yes)"), (("in", "not"), "(in not)")):
            self.assertEqual(show_saying(saying), text)
            self.assertEqual(read_saying(text), saying)

    def test_longer_words_more_letters_and_parts(self):
        word = "abcdefghijklmnopqrstuvwxyz" * 9
        self.assertEqual(read_saying(f"(in {word})"), ("in", word))
        self.assertEqual(show_saying(("not", ("in", word))), f"(not (in {word}))")
        rng = chance(271)
        for _ in range(300):
            saying = some_saying(rng, "abcdmyz", rng.randint(0, 9))
            text = show_saying(saying)
            self.assertIsNone(fault_by_hand(text))
            self.assertEqual(read_saying(text), saying)

    def test_deep_ones(self):
        for head, tail in (("(not ", ")"), ("(and yes ", ")"), ("(or ", " (in a))")):
            text = head * 20000 + "no" + tail * 20000
            saying = read_saying(text)
            self.assertEqual(show_saying(saying), text)
            self.assert_refused(text[:-1], len(text) - 1)
            self.assert_refused(text + ")", len(text))
            depth = 0
            while saying != ("no",) and depth < 20001:
                saying = saying[2 if head == "(and yes " else 1]
                depth += 1
            self.assertEqual(depth, 20000)

    def test_none_of_a_saying(self):
        for text, at in (("", 0), (" ", 0), ("x", 0), (".", 0), (")", 0), ("a", 0), ("Yes", 0), ("\n", 0), ("yes ", 3),
                         ("yess", 3), ("yes\n", 3), ("no)", 2), ("not", 2), ("nno", 1), ("ye ", 2), ("y", 1), ("n", 1),
                         ("(", 1), ("()", 1), ("(yes)", 1), ("( in a)", 1), ("(x", 1), ("(in", 3), ("(in ", 4),
                         ("(in)", 3), ("(in )", 4), ("(in  a)", 4), ("(in a", 5), ("(in a )", 5), ("(in A)", 4),
                         ("(in a.)", 5), ("(in .a)", 5), ("(in ..)", 5), ("(in (in a))", 4), ("(in a1)", 5),
                         ("(not)", 4), ("(not )", 5), ("(not  yes)", 5), ("(not yes", 8), ("(not yes no)", 8),
                         ("(not yes))", 9), ("(no yes)", 3), ("(and yes)", 8), ("(and yes no", 11),
                         ("(and yes  no)", 9), ("(and yes no yes)", 11), ("(andyes no)", 4), ("(an yes no)", 3),
                         ("(or yes no) ", 11), ("(or yes nono)", 10), ("(or yes n)", 9), ("(or yes\nno)", 7),
                         ("(o", 2), ("(or (and yes (in b)) (not (in c))", 33), ("yes no", 3), ("(in a)(in b)", 6)):
            self.assertEqual(fault_by_hand(text), at, text)
            self.assert_refused(text, at)

    def test_each_begin_ends_too_early(self):
        for text in ("yes", "(and (or yes (in .)) (not (in abc)))"):
            for at in range(len(text)):
                self.assert_refused(text[:at], at)

    def test_spoilt_ones(self):
        rng = chance(272)
        signs = "yesnotadri()(). abz?\n"
        refused = 0
        for _ in range(4000):
            text = show_saying(some_saying(rng, "ab", rng.randint(0, 3)))
            at = rng.randint(0, len(text))
            text = text[:at] + rng.choice(("", rng.choice(signs))) + text[at + rng.randint(0, 2):]
            fault = fault_by_hand(text)
            if fault is None:
                self.assertEqual(show_saying(read_saying(text)), text)
            else:
                refused += 1
                self.assert_refused(text, fault)
        self.assertLess(2000, refused)

    def test_asked_again_the_same_is_told(self):
        saying = ("and", ("no",), ("in", "c"))
        first = show_saying(saying)
        self.assert_refused("(and", 4)
        self.assertEqual(show_saying(read_saying(first)), first)
        self.assertEqual(saying, ("and", ("no",), ("in", "c")))
