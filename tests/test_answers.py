import unittest

from helper import above, chance, some_house, some_standing, standings_under, with_one_deed
from lostpost.answers import answered
from lostpost.back import ahead_of, least_standings, rank_of, search
from lostpost.errors import TooMany
from lostpost.runs import deeds, walked

SENDER = ("a", 1, 0, ((1, ((0, ("send", 0, "a"), 0),)),))
# Two hands that hand one letter on, the second one only where nothing is behind it.
PASSING = ("ab", 2, 1, ((2, ((0, ("send", 0, "a"), 1), (1, ("if", 0, 1), 0))),
                        (3, ((0, ("take", 0, "a"), 1), (1, ("empty", 0), 2), (2, ("set", 0, 1), 0)))))


class Answered(unittest.TestCase):
    def assert_run(self, house, begin, asked, count):
        kind, run = answered(house, begin, asked)
        self.assertEqual(kind, "run")
        self.assertIsInstance(run, tuple)
        last = ([begin] + walked(house, begin, run))[-1]
        self.assertTrue(above(last, asked), (house, begin, asked, run))
        self.assertEqual(deeds(run), count)

    def test_runs(self):
        begin = ((0, 0), (0,), ("", ""))
        self.assert_run(PASSING, begin, ((1, 0), (0,), ("a", "")), 1)
        self.assert_run(PASSING, begin, ((1, 1), (0,), ("", "")), 2)
        self.assert_run(PASSING, begin, ((1, 2), (0,), ("", "")), 3)
        self.assert_run(PASSING, begin, ((0, 0), (1,), ("", "")), 5)
        self.assert_run(PASSING, begin, ((1, 0), (1,), ("a", "")), 6)

    def test_losses_ahead_of_a_take_and_of_empty(self):
        begin = ((0, 0), (0,), ("bba", "bb"))
        self.assert_run(PASSING, begin, ((0, 1), (0,), ("", "bb")), 1)
        begin = ((0, 1), (0,), ("bba", "bb"))
        self.assert_run(PASSING, begin, ((0, 2), (0,), ("", "bb")), 1)

    def test_a_begin_at_or_above_the_asked_one(self):
        asked = ((0,), (), ("aa",))
        for word in ("aa", "aaa", "aaaa"):
            self.assert_run(SENDER, ((0,), (), (word,)), asked, 0)

    def test_never(self):
        begin = ((0, 0), (0,), ("", ""))
        self.assertEqual(answered(("ab", 1, 0, ((2, ((0, ("send", 0, "a"), 1),)),)), ((0,), (), ("",)),
                                  ((1,), (), ("aa",))), ("never", (((0,), (), ("a",)), ((1,), (), ("aa",)))))
        kind, standings = answered(PASSING, begin, ((1, 0), (0,), ("aa", "")))
        self.assertEqual((kind, standings), ("never", least_standings(search(PASSING, ((1, 0), (0,), ("aa", ""))))))

    def test_no_rules(self):
        house = ("a", 1, 0, ((2, ()),))
        self.assertEqual(answered(house, ((0,), (), ("a",)), ((1,), (), ("",))), ("never", (((1,), (), ("",)),)))
        self.assertEqual(answered(house, ((0,), (), ("a",)), ((0,), (), ("aa",))), ("never", (((0,), (), ("aa",)),)))
        self.assert_run(house, ((1,), (), ("aa",)), ((1,), (), ("a",)), 0)

    def test_just_one_of_two(self):
        rng = chance(101)
        told = {"run": 0, "never": 0}
        for _ in range(600):
            house = some_house(rng)
            begin, asked = some_standing(rng, house), some_standing(rng, house)
            rows = search(house, asked)
            rank = rank_of(rows, begin)
            kind, paper = answered(house, begin, asked)
            told[kind] += 1
            if kind == "run":
                self.assert_run(house, begin, asked, rank)
            else:
                self.assertIsNone(rank)
                self.assertEqual(paper, least_standings(rows))
                self.assert_closed(house, begin, asked, paper)
        self.assertLess(50, min(told.values()))

    def assert_closed(self, house, begin, asked, paper):
        self.assertTrue(any(above(asked, one) for one in paper))
        self.assertFalse(any(above(begin, one) for one in paper))
        for ahead in [ahead for one in paper for ahead in ahead_of(house, one)]:
            self.assertTrue(any(above(ahead, one) for one in paper))

    def test_never_against_walking_ahead(self):
        rng = chance(102)
        for _ in range(120):
            house = some_house(rng, "a")
            begin, asked = some_standing(rng, house, 2), some_standing(rng, house, 2)
            here = standings_under(begin)
            for _ in range(4):
                here |= with_one_deed(house, here)
            kind, paper = answered(house, begin, asked)
            self.assertTrue(kind == "run" or asked not in here)
            self.assertTrue(asked not in here or deeds(paper) <= 4)

    def test_too_many_whatever_comes(self):
        asked = ((0,), (), ("aaa",))
        for begin in (asked, ((0,), (), ("aaaa",)), ((0,), (), ("aa",)), ((0,), (), ("",))):
            for most in (1, 2, 3):
                with self.assertRaises(TooMany) as taken:
                    answered(SENDER, begin, asked, most)
                self.assertEqual(taken.exception.most, most)
            self.assertEqual(answered(SENDER, begin, asked, 4), answered(SENDER, begin, asked))
        with self.assertRaises(TooMany) as taken:
            answered(SENDER, asked, ((0,), (), ("a" * 200,)))
        self.assertEqual(taken.exception.most, 200)

    def test_too_many_as_the_search_has_it(self):
        rng = chance(103)
        for _ in range(60):
            house = some_house(rng)
            begin, asked = some_standing(rng, house), some_standing(rng, house)
            count = len(search(house, asked))
            expected = answered(house, begin, asked)
            self.assertEqual(answered(house, begin, asked, count), expected)
            if count > 1:
                with self.assertRaises(TooMany):
                    answered(house, begin, asked, count - 1)

    def test_asked_again(self):
        begin, asked = ((0, 0), (0,), ("", "")), ((0, 0), (1,), ("", ""))
        told = answered(PASSING, begin, asked)
        answered(SENDER, ((0,), (), ("",)), ((0,), (), ("aa",)))
        self.assertEqual(answered(PASSING, begin, asked), told)
