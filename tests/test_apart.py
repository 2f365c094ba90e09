import unittest

from helper import chance, in_order, some_word, subwords
from lostpost.apart import least_length, told_apart


def answers(word, n):
    return {question for question in subwords(word) if len(question) <= n}


def some_words(rng, letters, most=5, count=4):
    return tuple(some_word(rng, letters, most) for _ in range(rng.randint(1, count)))


class Apart(unittest.TestCase):
    def assert_questions(self, ones, others, n):
        kind, questions = told_apart(ones, others, n)
        self.assertEqual(kind, "questions", (ones, others, n))
        self.assertIsInstance(questions, tuple)
        self.assertEqual(list(questions), in_order(set(questions)))
        self.assertTrue(all(len(question) <= n for question in questions))
        parting = [{question for question in questions if (question in subwords(one)) != (question in subwords(other))}
                   for one in ones for other in others]
        self.assertTrue(all(parting), (ones, others, n, questions))
        for question in questions:
            self.assertIn({question}, parting, (ones, others, n, questions))
        return questions

    def test_ordinary_ones(self):
        self.assertEqual(told_apart(("a",), ("",), 1), ("questions", ("a",)))
        self.assertEqual(told_apart(("ab",), ("ba",), 2)[0], "questions")
        self.assertIn(self.assert_questions(("ab",), ("ba",), 2), (("ab",), ("ba",)))
        self.assertEqual(self.assert_questions(("aaa",), ("aa",), 3), ("aaa",))
        self.assertEqual(self.assert_questions(("a", "b"), ("", "ab"), 1), ("a", "b"))

    def test_the_first_that_are_alike(self):
        self.assertEqual(told_apart(("a",), ("b",), 0), ("alike", "a", "b"))
        self.assertEqual(told_apart(("a", "ab"), ("", "ba", "ab"), 1), ("alike", "ab", "ba"))
        self.assertEqual(told_apart(("a", "ab"), ("", "ab", "ba"), 1), ("alike", "ab", "ab"))
        self.assertEqual(told_apart(("ba", "a"), ("aa", "aab"), 1), ("alike", "ba", "aab"))
        self.assertEqual(told_apart(("a", "ba"), ("aab", "aa"), 1), ("alike", "a", "aa"))

    def test_by_no_letters(self):
        for ones in (("",), ("abc", "a"), ("b", "b")):
            for others in (("a",), ("", "cc"), ("abc",)):
                self.assertEqual(told_apart(ones, others, 0), ("alike", ones[0], others[0]))

    def test_a_word_in_both(self):
        for n in range(4):
            self.assertEqual(told_apart(("", "abcab"), ("abcab",), n)[0], "alike")
        self.assertEqual(told_apart(("", "abcab"), ("cc", "abcab"), 3), ("alike", "abcab", "abcab"))

    def test_a_word_more_than_once(self):
        self.assertEqual(self.assert_questions(("a", "a"), ("", "", ""), 1), ("a",))
        self.assertEqual(told_apart(("a", "a"), ("b", "b"), 0), ("alike", "a", "b"))
        self.assertEqual(self.assert_questions(("a", "b", "a", "b"), ("", "ab", "", "ab"), 1), ("a", "b"))

    def test_by_chance(self):
        rng = chance(251)
        counts = {}
        for _ in range(1500):
            letters = rng.choice(("a", "ab", "abc"))
            ones, others, n = some_words(rng, letters), some_words(rng, letters), rng.randint(0, 3)
            same = [(one, other) for one in ones for other in others if answers(one, n) == answers(other, n)]
            if same:
                self.assertEqual(told_apart(ones, others, n), ("alike",) + same[0])
            else:
                count = len(self.assert_questions(ones, others, n))
                counts[count] = counts.get(count, 0) + 1
        self.assertTrue(all(counts.get(count, 0) > 20 for count in (1, 2, 3)), counts)

    def test_words_that_are_near_one_another(self):
        rng = chance(252)
        for _ in range(300):
            word = some_word(rng, "abc", 5, 4)
            near = [word[:k] + word[k + 1:] for k in range(len(word))] + [word, word[::-1]]
            ones = tuple(rng.choice(near) for _ in range(4))
            others = tuple(other for other in near if other not in ones)[:4]
            if others and told_apart(ones, others, 3)[0] == "questions":
                self.assert_questions(ones, others, 3)

    def test_asked_again_the_same_is_told(self):
        ones, others = ("abc", "b"), ("cab", "aa")
        first = told_apart(ones, others, 2)
        told_apart(others, ones, 3), least_length(ones, others)
        self.assertEqual(told_apart(ones, others, 2), first)
        self.assertEqual((ones, others), (("abc", "b"), ("cab", "aa")))


class LeastLength(unittest.TestCase):
    def test_ordinary_ones(self):
        for ones, others, n in ((("a",), ("b",), 1), (("",), ("a",), 1), (("ab",), ("ba",), 2), (("aa",), ("a",), 2),
                                (("a", "ab"), ("b", "ba"), 2), (("aab", "c"), ("aaab", "cb"), 3)):
            self.assertEqual(least_length(ones, others), n)
            self.assertEqual(least_length(others, ones), n)

    def test_four_and_five(self):
        self.assertEqual(least_length(("aaa",), ("aaaa",)), 4)
        self.assertEqual(least_length(("aaaa",), ("aaaaa",)), 5)
        self.assertEqual(least_length(("a", "bbbb"), ("c", "bbbbb", "")), 5)
        self.assertEqual(least_length(("abbb",), ("abbbb",)), 4)

    def test_a_word_in_both(self):
        self.assertIsNone(least_length(("a",), ("a",)))
        self.assertIsNone(least_length(("",), ("",)))
        self.assertIsNone(least_length(("b", "abcab", "c"), ("", "a", "abcab")))

    def test_a_word_more_than_once(self):
        self.assertEqual(least_length(("a", "a"), ("b", "b")), 1)
        self.assertIsNone(least_length(("a", "a"), ("b", "a", "a")))

    def test_by_chance(self):
        rng = chance(253)
        found = set()
        for _ in range(600):
            letters = rng.choice(("a", "ab", "abc"))
            ones, others = some_words(rng, letters, 5, 3), some_words(rng, letters, 5, 3)
            least = min([n for n in range(6) if not any(answers(one, n) == answers(other, n)
                                                        for one in ones for other in others)], default=None)
            self.assertEqual(least_length(ones, others), least, (ones, others))
            self.assertEqual(least is None, bool(set(ones) & set(others)))
            if least is not None and least < 4:
                self.assertEqual(told_apart(ones, others, least)[0], "questions")
                self.assertEqual(told_apart(ones, others, least - 1)[0], "alike")
            found.add(least)
        self.assertEqual(found, {None, 1, 2, 3, 4, 5})
