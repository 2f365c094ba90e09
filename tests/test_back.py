import unittest

from helper import above, all_standings, chance, done_by_hand, some_house, some_standing, standings_under, with_one_deed
from lostpost.back import ahead_of, least_standings, rank_of, search
from lostpost.errors import TooMany

SENDER = ("a", 1, 0, ((1, ((0, ("send", 0, "a"), 0),)),))


def least_of_standings(standings):
    unlike = set(standings)
    return sorted(one for one in unlike if not any(other != one and above(one, other) for other in unlike))


def small_house(rng):
    """A house and how long the words of its standings may be, so that all standings can be walked."""
    sizes = (("a", 1, 3), ("ab", 1, 2), ("abc", 1, 1), ("a", 2, 1), ("ab", 2, 0), ("a", 2, 2))
    letters, lines, most = rng.choice(sizes)
    return some_house(rng, letters, lines), most


def one_rule(deed, letters="ab", lines=2, flags=1):
    return (letters, lines, flags, ((2, ((0, deed, 1),)),))


class Ahead(unittest.TestCase):
    def assert_ahead(self, deed, flags, words, expected):
        told = ahead_of(one_rule(deed), ((1,), flags, words))
        self.assertEqual(told, [((0,), flags, words) for flags, words in expected], deed)

    def test_each_deed(self):
        self.assert_ahead(("go",), (0,), ("ab", "b"), [((0,), ("ab", "b"))])
        self.assert_ahead(("send", 0, "b"), (0,), ("ab", "b"), [((0,), ("a", "b"))])
        self.assert_ahead(("send", 0, "a"), (0,), ("ab", "b"), [((0,), ("ab", "b"))])
        self.assert_ahead(("send", 1, "b"), (0,), ("ab", "b"), [((0,), ("ab", ""))])
        self.assert_ahead(("send", 1, "b"), (0,), ("ab", ""), [((0,), ("ab", ""))])
        self.assert_ahead(("take", 0, "b"), (0,), ("ab", "b"), [((0,), ("bab", "b"))])
        self.assert_ahead(("take", 1, "a"), (0,), ("ab", ""), [((0,), ("ab", "a"))])
        self.assert_ahead(("empty", 1), (0,), ("ab", ""), [((0,), ("ab", ""))])
        self.assert_ahead(("empty", 0), (0,), ("ab", ""), [])
        self.assert_ahead(("set", 0, 1), (1,), ("ab", ""), [((0,), ("ab", "")), ((1,), ("ab", ""))])
        self.assert_ahead(("set", 0, 1), (0,), ("ab", ""), [])
        self.assert_ahead(("if", 0, 1), (1,), ("ab", ""), [((1,), ("ab", ""))])
        self.assert_ahead(("if", 0, 1), (0,), ("ab", ""), [])

    def test_another_room(self):
        for deed in (("go",), ("send", 0, "a"), ("take", 0, "a"), ("empty", 0), ("set", 0, 0), ("if", 0, 0)):
            self.assertEqual(ahead_of(one_rule(deed), ((0,), (0,), ("", ""))), [])

    def test_no_rules(self):
        self.assertEqual(ahead_of(("a", 1, 0, ((1, ()),)), ((0,), (), ("a",))), [])

    def test_the_standing_itself(self):
        here = ((0,), (), ("a",))
        self.assertEqual(ahead_of(("a", 1, 0, ((1, ((0, ("go",), 0),)),)), here), [here])

    def test_the_least_alone(self):
        rules = ((0, ("go",), 0), (0, ("take", 0, "a"), 0), (0, ("send", 0, "a"), 0), (0, ("go",), 0))
        self.assertEqual(ahead_of(("a", 1, 0, ((1, rules),)), ((0,), (), ("aa",))), [((0,), (), ("a",))])

    def test_against_all_standings(self):
        rng = chance(91)
        for _ in range(120):
            house, most = small_house(rng)
            standing = some_standing(rng, house, most)
            ahead = [one for one in all_standings(house, most + 1) if standing in with_one_deed(house, [one])]
            self.assertEqual(ahead_of(house, standing), least_of_standings(ahead), (house, standing))

    def test_long_words(self):
        house = ("ab", 1, 0, ((1, ((0, ("send", 0, "b"), 0), (0, ("take", 0, "b"), 0))),))
        self.assertEqual(ahead_of(house, ((0,), (), ("ab" * 20,))), [((0,), (), ("ab" * 19 + "a",))])


class Search(unittest.TestCase):
    def assert_too_many(self, house, asked, most):
        with self.assertRaises(TooMany) as taken:
            search(house, asked, most)
        self.assertEqual(taken.exception.most, most)

    def assert_by_ranks(self, house, rows):
        ranks = [row[1] for row in rows]
        self.assertEqual(ranks, sorted(ranks))
        known = []
        for rank in range(ranks[-1] + 2):
            came = [row[0] for row in rows if row[1] == rank]
            if rank > 0:
                ahead = {one for row in rows if row[1] == rank - 1 for one in ahead_of(house, row[0])}
                fresh = [one for one in ahead if not any(above(one, other) for other in known)]
                self.assertEqual(came, least_of_standings(fresh))
            known.extend(came)

    def test_the_asked_alone(self):
        asked = ((0,), (), ("aba",))
        self.assertEqual(search(("ab", 1, 0, ((2, ()),)), asked), [(asked, 0, None, None, None)])
        self.assertEqual(search(("ab", 1, 0, ((2, ()),)), asked, 1), [(asked, 0, None, None, None)])

    def test_row_by_row(self):
        self.assertEqual(search(SENDER, ((0,), (), ("aaa",))), [
            (((0,), (), ("aaa",)), 0, None, None, None), (((0,), (), ("aa",)), 1, 0, 0, 0),
            (((0,), (), ("a",)), 2, 0, 0, 1), (((0,), (), ("",)), 3, 0, 0, 2)])

    def test_in_order_within_a_rank(self):
        rules = ((2, ("go",), 0), (1, ("take", 0, "b"), 0), (1, ("take", 0, "a"), 0), (1, ("take", 0, "a"), 0))
        rows = search(("ab", 1, 0, ((3, rules),)), ((0,), (), ("",)))
        self.assertEqual([row[:3] for row in rows], [(((0,), (), ("",)), 0, None), (((1,), (), ("a",)), 1, 0),
                                                     (((1,), (), ("b",)), 1, 0), (((2,), (), ("",)), 1, 0)])
        self.assertIn(rows[1][3:], ((2, 0), (3, 0)))
        self.assertEqual([row[3:] for row in rows[2:]], [(1, 0), (0, 0)])

    def test_what_came_up_later_may_lie_under(self):
        rules = ((1, ("take", 0, "a"), 0), (2, ("go",), 0), (1, ("go",), 2))
        asked = ((0,), (), ("",))
        rows = search(("a", 1, 0, ((3, rules),)), asked)
        self.assertEqual([row[:2] for row in rows], [(asked, 0), (((1,), (), ("a",)), 1), (((2,), (), ("",)), 1),
                                                     (((1,), (), ("",)), 2)])
        self.assertEqual(rank_of(rows, ((1,), (), ("a",))), 1)
        self.assertEqual(rank_of(rows, ((1,), (), ("",))), 2)
        self.assertEqual(least_standings(rows), (asked, ((1,), (), ("",)), ((2,), (), ("",))))

    def test_ranks_and_rows(self):
        rng = chance(92)
        for _ in range(400):
            house = some_house(rng)
            asked = some_standing(rng, house)
            rows = search(house, asked)
            self.assertEqual(rows[0], (asked, 0, None, None, None))
            self.assert_by_ranks(house, rows)
            for standing, rank, hand, rule, number in rows[1:]:
                behind = done_by_hand(house, standing, hand, rule)
                self.assertIsNotNone(behind)
                self.assertTrue(above(behind, rows[number][0]))
                self.assertEqual(rows[number][1], rank - 1)

    def test_just_most_and_one_more(self):
        asked = ((0,), (), ("aaa",))
        rows = search(SENDER, asked)
        for most in (4, 5, 200):
            self.assertEqual(search(SENDER, asked, most), rows)
        for most in (1, 2, 3):
            self.assert_too_many(SENDER, asked, most)

    def test_each_most(self):
        rng = chance(93)
        for _ in range(60):
            house = some_house(rng)
            asked = some_standing(rng, house)
            rows = search(house, asked)
            for most in range(1, len(rows) + 3):
                if most < len(rows):
                    self.assert_too_many(house, asked, most)
                else:
                    self.assertEqual(search(house, asked, most), rows)

    def test_two_hundred_by_itself(self):
        asked = ((0,), (), ("a" * 199,))
        self.assertEqual(len(search(SENDER, asked)), 200)
        with self.assertRaises(TooMany) as taken:
            search(SENDER, ((0,), (), ("a" * 200,)))
        self.assertEqual(taken.exception.most, 200)

    def test_the_askers_own(self):
        asked = ((0,), (), ("aaa",))
        rows = search(SENDER, asked)
        kept = list(rows)
        rows.pop(0)
        self.assertEqual(search(SENDER, asked), kept)
        ahead = ahead_of(SENDER, asked)
        ahead.clear()
        self.assertEqual(ahead_of(SENDER, asked), [((0,), (), ("aa",))])


class Ranks(unittest.TestCase):
    def fewest_deeds(self, house, begin, asked, most):
        """By walking ahead: the fewest deeds, or None where more than most are needed or none ever do."""
        here = standings_under(begin)
        for count in range(most + 1):
            if asked in here:
                return count
            here = here | with_one_deed(house, here)
        return None

    def test_against_walking_ahead(self):
        rng = chance(94)
        seen = set()
        for _ in range(500):
            house = some_house(rng, rng.choice(("a", "ab")))
            begin, asked = some_standing(rng, house, 2), some_standing(rng, house, 2)
            rank = rank_of(search(house, asked), begin)
            expected = self.fewest_deeds(house, begin, asked, 3)
            self.assertEqual(rank if rank is None or rank <= 3 else None, expected, (house, begin, asked))
            seen.add(rank)
        self.assertLessEqual({None, 0, 1, 2, 3}, seen)

    def test_a_begin_at_or_above(self):
        rows = search(SENDER, ((0,), (), ("aaa",)))
        for count, rank in enumerate((3, 2, 1, 0, 0, 0)):
            self.assertEqual(rank_of(rows, ((0,), (), ("a" * count,))), rank)

    def test_never(self):
        rows = search(("ab", 1, 0, ((2, ((0, ("send", 0, "a"), 1),)),)), ((1,), (), ("b",)))
        self.assertIsNone(rank_of(rows, ((0,), (), ("a",))))
        self.assertEqual(rank_of(rows, ((0,), (), ("aba",))), 1)
        self.assertIsNone(rank_of([], ((0,), (), ("a",))))

    def test_the_least_standings(self):
        rng = chance(95)
        for _ in range(200):
            house = some_house(rng)
            rows = search(house, some_standing(rng, house))
            expected = least_of_standings([row[0] for row in rows])
            self.assertEqual(least_standings(rows), tuple(expected))
            kept = list(rows)
            rng.shuffle(rows)
            self.assertEqual(least_standings(rows), tuple(expected))
            ahead = [one for standing in expected for one in ahead_of(house, standing)]
            self.assertTrue(all(any(above(one, other) for other in expected) for one in ahead))
            self.assertEqual(sorted(rows, key=kept.index), kept)

    def test_what_is_handed_in_is_unchanged(self):
        rows = search(SENDER, ((0,), (), ("aa",)))
        kept = list(rows)
        rank_of(rows, ((0,), (), ("a",)))
        least_standings(rows)
        self.assertEqual(rows, kept)
