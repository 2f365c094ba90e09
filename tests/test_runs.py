import unittest

from helper import chance, done_by_hand, rules_of, some_house, some_standing
from lostpost.errors import NoStep
from lostpost.runs import behind, deeds, steps_here, walked

HOUSE = ("ab", 2, 1, ((2, ((0, ("send", 0, "a"), 1), (1, ("take", 1, "b"), 0), (1, ("empty", 1), 1))),
                      (2, ((0, ("set", 0, 1), 1), (1, ("if", 0, 1), 0), (1, ("if", 0, 0), 0), (1, ("go",), 1)))))
BEGIN = ((0, 0), (0,), ("b", "ab"))


def some_step(rng, house, standing):
    """A step, often one that can't be."""
    if rng.random() < 0.5:
        return ("do", rng.randint(-2, len(house[3])), rng.randint(-6, 5))
    return ("lose", rng.randint(-2, house[1]), rng.randint(-5, 5))


def loss_by_hand(standing, line, place):
    rooms, flags, words = standing
    if line not in range(len(words)) or place not in range(len(words[line])):
        return None
    left = "".join(letter for k, letter in enumerate(words[line]) if k != place)
    return (rooms, flags, tuple(left if k == line else word for k, word in enumerate(words)))


def step_by_hand(house, standing, step):
    kind, first, second = step
    if kind == "lose":
        return loss_by_hand(standing, first, second)
    if (first, second) not in rules_of(house):
        return None
    return done_by_hand(house, standing, first, second)


class Steps(unittest.TestCase):
    def test_each_deed(self):
        self.assertEqual(steps_here(HOUSE, BEGIN), [("do", 0, 0), ("do", 1, 0)])
        self.assertEqual(steps_here(HOUSE, ((1, 1), (0,), ("", "ab"))), [("do", 1, 2), ("do", 1, 3)])
        self.assertEqual(steps_here(HOUSE, ((1, 1), (1,), ("", "ba"))), [("do", 0, 1), ("do", 1, 1), ("do", 1, 3)])
        self.assertEqual(steps_here(HOUSE, ((1, 1), (1,), ("b", ""))), [("do", 0, 2), ("do", 1, 1), ("do", 1, 3)])

    def test_behind_each_deed(self):
        self.assertEqual(behind(HOUSE, BEGIN, ("do", 0, 0)), ((1, 0), (0,), ("ba", "ab")))
        self.assertEqual(behind(HOUSE, BEGIN, ("do", 1, 0)), ((0, 1), (1,), ("b", "ab")))
        self.assertEqual(behind(HOUSE, ((1, 1), (1,), ("b", "bb")), ("do", 0, 1)), ((0, 1), (1,), ("b", "b")))
        self.assertEqual(behind(HOUSE, ((1, 1), (1,), ("b", "")), ("do", 0, 2)), ((1, 1), (1,), ("b", "")))
        self.assertEqual(behind(HOUSE, ((1, 1), (1,), ("b", "")), ("do", 1, 1)), ((1, 0), (1,), ("b", "")))
        self.assertEqual(behind(HOUSE, ((1, 1), (1,), ("b", "")), ("do", 1, 3)), ((1, 1), (1,), ("b", "")))

    def test_behind_losses(self):
        standing = ((0, 1), (1,), ("aba", "b"))
        self.assertEqual(behind(HOUSE, standing, ("lose", 0, 0)), ((0, 1), (1,), ("ba", "b")))
        self.assertEqual(behind(HOUSE, standing, ("lose", 0, 1)), ((0, 1), (1,), ("aa", "b")))
        self.assertEqual(behind(HOUSE, standing, ("lose", 0, 2)), ((0, 1), (1,), ("ab", "b")))
        self.assertEqual(behind(HOUSE, standing, ("lose", 1, 0)), ((0, 1), (1,), ("aba", "")))

    def test_no_rules(self):
        self.assertEqual(steps_here(("a", 1, 0, ((1, ()),)), ((0,), (), ("a",))), [])

    def test_a_rule_that_stands_twice(self):
        house = ("a", 1, 0, ((1, ((0, ("go",), 0),) * 2),))
        self.assertEqual(steps_here(house, ((0,), (), ("",))), [("do", 0, 0), ("do", 0, 1)])

    def test_against_other_reckoning(self):
        rng = chance(81)
        for _ in range(600):
            house = some_house(rng)
            standing = some_standing(rng, house)
            expected = {}
            for hand, number in rules_of(house):
                told = done_by_hand(house, standing, hand, number)
                if told is not None:
                    expected[("do", hand, number)] = told
            steps = steps_here(house, standing)
            self.assertEqual(steps, sorted(expected))
            self.assertEqual({step: behind(house, standing, step) for step in steps}, expected)


class Walked(unittest.TestCase):
    def assert_no_step(self, house, standing, run, at):
        with self.assertRaises(NoStep) as taken:
            walked(house, standing, run)
        self.assertEqual(taken.exception.at, at, run)

    def test_no_steps(self):
        self.assertEqual(walked(HOUSE, BEGIN, ()), [])

    def test_a_run(self):
        run = (("do", 1, 0), ("lose", 1, 0), ("do", 0, 0), ("do", 0, 1), ("lose", 0, 1), ("do", 1, 1))
        self.assertEqual(walked(HOUSE, BEGIN, run), [
            ((0, 1), (1,), ("b", "ab")), ((0, 1), (1,), ("b", "b")), ((1, 1), (1,), ("ba", "b")),
            ((0, 1), (1,), ("ba", "")), ((0, 1), (1,), ("b", "")), ((0, 0), (1,), ("b", ""))])

    def test_numbers_that_are_not_there(self):
        ahead = (("do", 0, 0),)
        for step in (("do", -1, 0), ("do", -2, 0), ("do", 2, 0), ("do", 1, -4), ("do", 1, 4), ("do", 1, -1),
                     ("lose", -1, 0), ("lose", -2, 0), ("lose", 2, 0), ("lose", 0, -1), ("lose", 0, 2), ("lose", 1, -2),
                     ("lose", 1, 2), ("do", 10 ** 20, 0), ("lose", 0, -10 ** 20)):
            self.assert_no_step(HOUSE, BEGIN, ahead + (step,), 1)
        self.assert_no_step(HOUSE, ((0, 0), (0,), ("", "")), (("lose", 0, 0),), 0)
        self.assert_no_step(HOUSE, ((0, 0), (0,), ("", "")), (("lose", 1, -1),), 0)

    def test_rules_that_can_not_be_done(self):
        self.assert_no_step(HOUSE, BEGIN, (("do", 0, 1),), 0)
        self.assert_no_step(HOUSE, BEGIN, (("do", 0, 0), ("do", 0, 1)), 1)
        self.assert_no_step(HOUSE, BEGIN, (("do", 0, 0), ("do", 0, 2)), 1)
        self.assert_no_step(HOUSE, BEGIN, (("do", 1, 0), ("do", 1, 2), ("do", 1, 0)), 1)
        self.assert_no_step(HOUSE, ((1, 0), (0,), ("", "")), (("do", 0, 1),), 0)

    def test_a_run_of_sixty_steps(self):
        house = ("a", 1, 0, ((1, ((0, ("send", 0, "a"), 0), (0, ("take", 0, "a"), 0))),))
        told = walked(house, ((0,), (), ("aaaa",)), (("do", 0, 0),) * 60)
        self.assertEqual([standing[2] for standing in told], [("a" * (5 + k),) for k in range(60)])
        self.assert_no_step(house, ((0,), (), ("aaaa",)), (("do", 0, 1),) * 60, 4)
        self.assert_no_step(house, ((0,), (), ("aaaa",)), (("lose", 0, 0),) * 60, 4)

    def test_against_other_reckoning(self):
        rng = chance(82)
        refused = 0
        for _ in range(1500):
            house = some_house(rng)
            begin = here = some_standing(rng, house)
            run, told = [], []
            while here is not None and len(run) < 12:
                able = steps_here(house, here)
                step = rng.choice(able) if able and rng.random() < 0.5 else some_step(rng, house, here)
                here = step_by_hand(house, here, step)
                run.append(step)
                told.append(here)
            run = tuple(run)
            if here is None:
                refused += 1
                self.assert_no_step(house, begin, run + (("lose", 9, 9),), len(run) - 1)
            else:
                self.assertEqual(walked(house, begin, run), told)
        self.assertLess(100, refused)

    def test_the_askers_own(self):
        run = (("do", 0, 0), ("lose", 0, 0))
        told = walked(HOUSE, BEGIN, run)
        kept = list(told)
        told.clear()
        self.assertEqual(walked(HOUSE, BEGIN, run), kept)
        steps = steps_here(HOUSE, BEGIN)
        steps.append(None)
        self.assertEqual(steps_here(HOUSE, BEGIN), steps[:-1])


class Deeds(unittest.TestCase):
    def test_deeds(self):
        self.assertEqual(deeds(()), 0)
        self.assertEqual(deeds((("lose", 0, 0),) * 3), 0)
        self.assertEqual(deeds((("do", 0, 0), ("lose", 0, 0), ("do", 1, 0), ("do", 0, 0))), 3)
        self.assertEqual(deeds((("do", -1, 7), ("lose", -1, 7))), 1)
