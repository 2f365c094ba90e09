import unittest

from helper import all_words, chance, some_saying, some_word, subwords
from lostpost.apart import told_apart
from lostpost.sayings import holds, put_together
from lostpost.sayingtexts import read_saying, show_saying

YES, NO, A, AB = ("yes",), ("no",), ("in", "a"), ("in", "ab")


def holds_by_hand(saying, word):
    kind, *rest = saying
    if kind == "in":
        return rest[0] in subwords(word)
    values = [holds_by_hand(part, word) for part in rest]
    return {"yes": lambda: True, "no": lambda: False, "not": lambda: not values[0],
            "and": lambda: values[0] and values[1], "or": lambda: values[0] or values[1]}[kind]()


def questions_in(saying):
    if saying[0] == "in":
        return {saying[1]}
    return set().union(*(questions_in(part) for part in saying[1:]))


class Holds(unittest.TestCase):
    def test_ordinary_ones(self):
        for saying, words in ((YES, ("", "a", "ab")), (NO, ()), (A, ("a", "ab")), (AB, ("ab",)), (("in", ""), ("", "a", "ab")),
                              (("not", A), ("",)), (("and", A, ("not", AB)), ("a",)), (("or", ("not", A), AB), ("", "ab")),
                              (("and", YES, NO), ()), (("or", NO, YES), ("", "a", "ab")), (("not", ("not", A)), ("a", "ab")),
                              (("or", A, NO), ("a", "ab")), (("and", NO, YES), ()), (("or", YES, NO), ("", "a", "ab"))):
            for word in ("", "a", "ab"):
                self.assertIs(holds(saying, word), word in words, (saying, word))

    def test_which_is_left_and_which_is_right(self):
        for one in (YES, NO):
            for other in (YES, NO):
                for third in (YES, NO):
                    for kind in ("and", "or"):
                        for within in ("and", "or"):
                            left, right = (kind, (within, one, other), third), (kind, third, ("not", (within, one, other)))
                            self.assertIs(holds(left, ""), holds_by_hand(left, ""))
                            self.assertIs(holds(right, ""), holds_by_hand(right, ""))

    def test_by_chance(self):
        rng = chance(261)
        for _ in range(400):
            saying = some_saying(rng, "abc", 6)
            for word in rng.sample(all_words("abc", 5), 10):
                self.assertIs(holds(saying, word), holds_by_hand(saying, word), (saying, word))

    def test_deep_ones(self):
        saying = A
        for _ in range(20001):
            saying = ("not", saying)
        self.assertIs(holds(saying, "a"), False)
        self.assertIs(holds(saying, "b"), True)
        self.assertIs(holds(read_saying("(or no " * 9999 + "(in ab)" + ")" * 9999), "cacb"), True)


class PutTogether(unittest.TestCase):
    def assert_put_together(self, ones, others, questions):
        saying = put_together(ones, others, questions)
        for words, value in ((ones, True), (others, False)):
            for word in words:
                self.assertIs(holds(saying, word), value, (ones, others, questions, saying))
                self.assertIs(holds_by_hand(saying, word), value)
        self.assertLessEqual(questions_in(saying), set(questions))
        self.assertEqual(read_saying(show_saying(saying)), saying)

    def test_ordinary_ones(self):
        self.assertEqual(put_together(("a",), ("",), ("a",)), ("in", "a"))
        self.assertEqual(put_together(("",), ("a",), ("a",)), ("not", ("in", "a")))
        self.assert_put_together(("a", "b"), ("", "ab"), ("a", "b"))
        self.assert_put_together(("a", "bbb"), ("", "b", "bb", "ba"), ("a", "b", "bbb"))

    def test_a_word_more_than_once(self):
        self.assert_put_together(("a", "a"), ("b", "b", "b"), ("b",))

    def test_of_told_questions(self):
        rng = chance(262)
        seen = 0
        for _ in range(800):
            letters = rng.choice(("ab", "abc"))
            ones = tuple(some_word(rng, letters, 5) for _ in range(rng.randint(1, 4)))
            others = tuple(some_word(rng, letters, 5) for _ in range(rng.randint(1, 4)))
            told = told_apart(ones, others, rng.randint(1, 3))
            if told[0] == "questions":
                seen += 1
                self.assert_put_together(ones, others, told[1])
        self.assertLess(300, seen)

    def test_of_any_that_tell_apart(self):
        rng = chance(263)
        seen = 0
        for _ in range(4000):
            ones = tuple(some_word(rng, "abc", 5) for _ in range(rng.randint(1, 4)))
            others = tuple(some_word(rng, "abc", 5) for _ in range(rng.randint(1, 4)))
            questions = tuple(rng.sample(all_words("abc", 3), rng.randint(1, 8)))
            if all(any((question in subwords(one)) != (question in subwords(other)) for question in questions)
                   for one in ones for other in others):
                seen += 1
                self.assert_put_together(ones, others, questions)
        self.assertLess(300, seen)

    def test_asked_again_the_same_is_told(self):
        asked = (("a", "bbb"), ("", "b", "bb", "ba"), ("", "bbb", "a", "b"))
        first = put_together(*asked)
        put_together(("",), ("a",), ("a",))
        self.assertEqual(put_together(*asked), first)
        self.assertEqual(asked, (("a", "bbb"), ("", "b", "bb", "ba"), ("", "bbb", "a", "b")))
