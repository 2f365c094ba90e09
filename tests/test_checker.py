import unittest

from helper import above, chance, some_house, some_standing, standings_under, with_one_deed
from lostpost.answers import answered
from lostpost.back import ahead_of, least_standings, search
from lostpost.checker import never_holds, run_holds
from lostpost.errors import NoPaper, NoStep
from lostpost.houses import is_standing
from lostpost.runs import steps_here, walked

HOUSE = ("ab", 1, 0, ((2, ((0, ("send", 0, "a"), 1), (1, ("take", 0, "b"), 0))),))
BEGIN = ((0,), (), ("ab",))
WHOLE = ((1,), (), ("",))


class Refusing(unittest.TestCase):
    def assert_refused(self, holds, house, begin, asked, paper, at):
        with self.assertRaises(NoPaper) as taken:
            holds(house, begin, asked, paper)
        self.assertEqual(taken.exception.at, at, (house, begin, asked, paper))


class Runs(Refusing):
    def test_held(self):
        self.assertIs(run_holds(HOUSE, BEGIN, ((1,), (), ("aba",)), (("do", 0, 0),)), True)
        self.assertIs(run_holds(HOUSE, BEGIN, ((1,), (), ("b",)), (("do", 0, 0), ("lose", 0, 2))), True)
        self.assertIs(run_holds(HOUSE, BEGIN, ((0,), (), ("a",)), (("do", 0, 0), ("lose", 0, 0), ("do", 0, 1))), True)

    def test_without_steps(self):
        self.assertIs(run_holds(HOUSE, BEGIN, BEGIN, ()), True)
        self.assertIs(run_holds(HOUSE, BEGIN, ((0,), (), ("b",)), ()), True)
        self.assert_refused(run_holds, HOUSE, BEGIN, ((1,), (), ("",)), (), 0)
        self.assert_refused(run_holds, HOUSE, BEGIN, ((0,), (), ("ba",)), (), 0)

    def test_it_ends_elsewhere(self):
        self.assert_refused(run_holds, HOUSE, BEGIN, ((0,), (), ("",)), (("do", 0, 0),), 1)
        self.assert_refused(run_holds, HOUSE, BEGIN, ((1,), (), ("abb",)), (("do", 0, 0),), 1)
        self.assert_refused(run_holds, HOUSE, BEGIN, ((1,), (), ("ab",)), (("lose", 0, 0), ("do", 0, 0)), 2)
        self.assert_refused(run_holds, HOUSE, BEGIN, ((1,), (), ("ab" * 300,)), (("do", 0, 0),), 1)

    def test_it_came_there_on_the_way_alone(self):
        self.assert_refused(run_holds, HOUSE, BEGIN, BEGIN, (("lose", 0, 0),), 1)
        self.assert_refused(run_holds, HOUSE, BEGIN, ((1,), (), ("aba",)), (("do", 0, 0), ("lose", 0, 0)), 2)

    def test_steps_that_are_not_there(self):
        for step in (("do", -1, 0), ("do", 1, 0), ("do", 0, -2), ("do", 0, 2), ("do", 0, 1), ("lose", -1, 0),
                     ("lose", 1, 0), ("lose", 0, -1), ("lose", 0, 2), ("do", 10 ** 20, -10 ** 20)):
            self.assert_refused(run_holds, HOUSE, BEGIN, BEGIN, (step,), 0)
            self.assert_refused(run_holds, HOUSE, ((0,), (), ("aab",)), BEGIN, (("lose", 0, 0), step, step), 1)

    def test_told_runs(self):
        rng = chance(111)
        held = 0
        for _ in range(300):
            house = some_house(rng)
            begin, asked = some_standing(rng, house), some_standing(rng, house, 2)
            kind, paper = answered(house, begin, asked)
            if kind == "run":
                held += 1
                self.assertIs(run_holds(house, begin, asked, paper), True)
        self.assertLess(50, held)

    def test_against_walking(self):
        rng = chance(112)
        for _ in range(600):
            house = some_house(rng)
            begin, asked = some_standing(rng, house, 2), some_standing(rng, house, 1)
            run = []
            while rng.random() < 0.8:
                able = steps_here(house, ([begin] + walked(house, begin, tuple(run)))[-1])
                run.append(rng.choice(able + [("lose", 0, 0)]))
                try:
                    walked(house, begin, tuple(run))
                except NoStep:
                    break
            self.assert_as_walked(house, begin, asked, tuple(run))

    def assert_as_walked(self, house, begin, asked, run):
        try:
            ends = above(([begin] + walked(house, begin, run))[-1], asked)
            at = len(run)
        except NoStep as error:
            ends, at = False, error.at
        if ends:
            self.assertIs(run_holds(house, begin, asked, run), True)
        else:
            self.assert_refused(run_holds, house, begin, asked, run, at)


class Nevers(Refusing):
    def test_held(self):
        asked = ((0,), (), ("b",))
        paper = (((0,), (), ("b",)), ((1,), (), ("bb",)))
        self.assertEqual(answered(HOUSE, ((1,), (), ("ab",)), asked), ("never", paper))
        for more in (paper, paper[::-1], paper * 3, paper + (((0,), (), ("bab",)), ((1,), (), ("abb",)))):
            self.assertIs(never_holds(HOUSE, ((1,), (), ("ab",)), asked, more), True)

    def test_without_standings(self):
        self.assert_refused(never_holds, HOUSE, BEGIN, WHOLE, (), 0)

    def test_the_asked_one_lies_above_none(self):
        paper = (((0,), (), ("b",)), ((1,), (), ("bb",)))
        self.assert_refused(never_holds, HOUSE, ((1,), (), ("ab",)), ((0,), (), ("a",)), paper, 2)
        self.assert_refused(never_holds, HOUSE, ((1,), (), ("ab",)), ((1,), (), ("b",)), paper, 2)
        self.assertIs(never_holds(HOUSE, ((1,), (), ("ab",)), ((0,), (), ("ab" * 500,)), paper), True)

    def test_the_begin_lies_above_one(self):
        paper = (((0,), (), ("b",)), ((1,), (), ("bb",)))
        for begin in (((0,), (), ("b",)), ((0,), (), ("aba",)), ((1,), (), ("bab",))):
            self.assert_refused(never_holds, HOUSE, begin, ((0,), (), ("b",)), paper, 2)
            self.assert_refused(never_holds, HOUSE, begin, ((0,), (), ("b",)), paper * 2, 4)

    def test_something_ahead_is_left_out(self):
        begin = ((0,), (), ("",))
        asked = ((0,), (), ("b",))
        self.assert_refused(never_holds, HOUSE, begin, asked, (asked,), 0)
        self.assert_refused(never_holds, HOUSE, begin, asked, (((1,), (), ("bbb",)), asked), 1)
        self.assert_refused(never_holds, HOUSE, begin, asked, (asked, asked), 0)
        self.assert_refused(never_holds, HOUSE, begin, asked, (((1,), (), ("bb",)),), 0)

    def test_no_standing_of_the_house(self):
        paper = (((0,), (), ("b",)), ((1,), (), ("bb",)))
        for wrong in (((2,), (), ("",)), ((-1,), (), ("",)), ((), (), ("",)), ((0, 0), (), ("",)), ((0,), (0,), ("",)),
                      ((0,), (), ()), ((0,), (), ("", "")), ((0,), (), ("c",)), ((1,), (), ("ab" * 50 + "z",)),
                      ((), (), ()), ((0,), (7, -7), ("",)), ((10 ** 20,), (), ("",))):
            for at in range(3):
                with_wrong = paper[:at] + (wrong,) + paper[at:]
                self.assert_refused(never_holds, HOUSE, ((1,), (), ("ab",)), ((0,), (), ("b",)), with_wrong, at)

    def test_what_is_no_standing_holds_nothing_up(self):
        house = ("ab", 1, 0, ((2, ((0, ("go",), 1),)),))
        asked = ((1,), (), ("b",))
        wrong = ((0,), (), ("c",))
        self.assert_refused(never_holds, house, ((0,), (), ("",)), asked, (wrong, asked), 0)
        self.assert_refused(never_holds, house, ((0,), (), ("",)), asked, (asked, wrong), 0)
        held = (asked, ((0,), (), ("b",)))
        self.assert_refused(never_holds, house, ((0,), (), ("",)), asked, held + (wrong,), 2)
        self.assertIs(never_holds(house, ((0,), (), ("",)), asked, held), True)

    def test_long_words_and_many_standings(self):
        house = ("ab", 1, 0, ((1, ((0, ("take", 0, "a"), 0),)),))
        long = ((0,), (), ("ab" * 1000,))
        self.assertIs(never_holds(house, ((0,), (), ("ab",)), long, (long,)), True)
        self.assertIs(never_holds(house, ((0,), (), ("ab",)), ((0,), (), ("b" + "ab" * 1000,)), (long,) * 3), True)
        self.assert_refused(never_holds, house, ((0,), (), ("ab",)), ((0,), (), ("ab" * 999,)), (long,), 1)
        many = tuple(((0,), (), (format(k, "b").replace("0", "a").replace("1", "b"),)) for k in range(512, 4096))
        self.assertIs(never_holds(house, ((0,), (), ("bb",)), long, many), True)
        self.assert_refused(never_holds, house, long, long, many, len(many))

    def test_told_papers(self):
        rng = chance(113)
        held = 0
        for _ in range(400):
            house = some_house(rng)
            begin, asked = some_standing(rng, house), some_standing(rng, house)
            kind, paper = answered(house, begin, asked)
            if kind == "never":
                held += 1
                self.assertIs(never_holds(house, begin, asked, paper), True)
        self.assertLess(100, held)

    def test_against_other_reckoning(self):
        rng = chance(114)
        outcomes = {}
        for _ in range(1500):
            house = some_house(rng, rng.choice(("a", "ab")))
            begin, asked = some_standing(rng, house, 1), some_standing(rng, house, 2)
            paper = list(least_standings(search(house, asked)))
            for _ in range(rng.choice((0, 0, 1, 1, 2))):
                self.spoil(rng, house, paper)
            outcome = self.assert_as_told(house, begin, asked, tuple(paper))
            outcomes[outcome] = outcomes.get(outcome, 0) + 1
        self.assertLess(30, min(outcomes.values()))
        self.assertEqual(len(outcomes), 4)

    def spoil(self, rng, house, paper):
        place = rng.randrange(len(paper) + 1)
        if paper and rng.random() < 0.4:
            paper.pop(place - 1)
        elif rng.random() < 0.5:
            paper.insert(place, some_standing(rng, house, 2))
        else:
            paper.insert(place, some_standing(rng, some_house(rng), 2))

    def assert_as_told(self, house, begin, asked, paper):
        good = [one for one in paper if is_standing(house, one)]
        for at, one in enumerate(paper):
            is_good = is_standing(house, one)
            if not is_good or any(not any(above(ahead, less) for less in good) for ahead in ahead_of(house, one)):
                self.assert_refused(never_holds, house, begin, asked, paper, at)
                return "ahead" if is_good else "wrong"
        if not any(above(asked, one) for one in good) or any(above(begin, one) for one in good):
            self.assert_refused(never_holds, house, begin, asked, paper, len(paper))
            return "last"
        self.assertIs(never_holds(house, begin, asked, paper), True)
        return "held"

    def test_what_is_let_by_is_so(self):
        rng = chance(115)
        held = 0
        for _ in range(300):
            house = some_house(rng, "a")
            begin, asked = some_standing(rng, house, 1), some_standing(rng, house, 2)
            paper = tuple(least_standings(search(house, asked))) + (some_standing(rng, house, 2),)
            try:
                never_holds(house, begin, asked, paper)
            except NoPaper:
                continue
            held += 1
            here = standings_under(begin)
            for _ in range(3):
                here |= with_one_deed(house, here)
            self.assertNotIn(asked, here)
        self.assertLess(20, held)

    def test_asked_again(self):
        paper = (((0,), (), ("b",)), ((1,), (), ("bb",)))
        for _ in range(2):
            self.assertIs(never_holds(HOUSE, ((1,), (), ("ab",)), ((0,), (), ("b",)), paper), True)
            self.assert_refused(never_holds, HOUSE, ((1,), (), ("ab",)), ((0,), (), ("b",)), paper[:1], 0)
