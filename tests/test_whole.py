"""What is promised over the whole program: its names, its promises together, and that nothing handed in is changed."""

import copy
import importlib
import inspect
import unittest

from helper import (all_words, chance, grammar_by_chance, some_expression, some_grown, some_house, some_machine,
                    some_standing, some_word, standings_under, subwords, words_in)
from lostpost import errors
from lostpost.answers import answered
from lostpost.apart import least_length, told_apart
from lostpost.back import ahead_of, least_standings, rank_of, search
from lostpost.checker import never_holds, run_holds
from lostpost.downs import down_of, least_of
from lostpost.errors import NoPaper
from lostpost.expressions import expression_has, parting, plain
from lostpost.grammars import is_tree, word_of
from lostpost.grown import has
from lostpost.led import led_to
from lostpost.machines import grammar_of
from lostpost.makes import words_of
from lostpost.outsides import outside_of, outside_of_grown
from lostpost.questions import alike, answers
from lostpost.runs import deeds, steps_here, walked
from lostpost.sayings import holds, put_together
from lostpost.trees import tree_above, tree_outside
from lostpost.words import above_both, least, places

INTERFACE = """
words is_word(text) is_alphabet(text) lies_under(less,more) places(less,more) least(words) above_both(one,other)
grown has(grown,word) grown_within(one,other) grown_joined(one,other) grown_met(one,other)
products product_has(product,word) plain_product(product) product_within(one,other) products_met(one,other)
expressions expression_has(expression,word) within(one,other) plain(expression) joined(one,other) met(one,other)
expressions parting(one,other)
texts show_expression(expression) read_expression(text)
outsides outside_of_grown(letters,grown) outside_of(letters,expression)
houses look_house(house) is_standing(house,standing) is_above(one,other)
housetexts show_house(house) read_house(text) show_standing(standing) read_standing(house,text)
runs steps_here(house,standing) behind(house,standing,step) walked(house,standing,run) deeds(run)
back ahead_of(house,standing) search(house,asked,most=200) rank_of(rows,standing) least_standings(rows)
answers answered(house,begin,asked,most=200)
checker run_holds(house,begin,asked,run) never_holds(house,begin,asked,paper)
grammars look_grammar(grammar) is_tree(grammar,name,tree) word_of(grammar,tree) size_of(tree)
grammartexts show_grammar(grammar) read_grammar(text)
machines grammar_of(machine)
makes makers(grammar) words_of(grammar,n)
downs down_of(grammar) least_of(grammar)
trees tree_above(grammar,word) tree_outside(grammar,expression)
questions answers(word,n) alike(one,other,n)
led led_to(one,other,n)
apart told_apart(ones,others,n) least_length(ones,others)
sayings holds(saying,word) put_together(ones,others,questions)
sayingtexts show_saying(saying) read_saying(text)
desk Desk()
"""
REFUSALS = {"NoText": "at", "NoHouse": "word at", "NoStep": "at", "TooMany": "most", "NoPaper": "at", "NoGrammar": "at",
            "NoRow": ""}


class Interface(unittest.TestCase):
    def test_functions(self):
        for row in INTERFACE.strip().split("\n"):
            module, *functions = row.split(" ")
            for function in functions:
                name, _, arguments = function.rstrip(")").partition("(")
                found = getattr(importlib.import_module(f"lostpost.{module}"), name)
                self.assertEqual(str(inspect.signature(found)).replace(" ", ""), f"({arguments})", function)

    def test_the_desk(self):
        desk = importlib.import_module("lostpost.desk").Desk()
        self.assertEqual(str(inspect.signature(desk.say)), "(row)")

    def test_refusals(self):
        for name, fields in REFUSALS.items():
            kind = getattr(errors, name)
            self.assertEqual(kind.__bases__, (errors.LostError,))
            values = [f"value {field}" for field in fields.split()]
            error = kind(*values)
            self.assertEqual([getattr(error, field) for field in fields.split()], values)
        self.assertEqual(errors.LostError.__bases__, (ValueError,))


class Promises(unittest.TestCase):
    def test_a_run_or_a_never(self):
        rng = chance(301)
        for _ in range(150):
            house = some_house(rng)
            begin, asked = some_standing(rng, house), some_standing(rng, house)
            kind, paper = answered(house, begin, asked)
            rows = search(house, asked)
            if kind == "run":
                self.assertIs(run_holds(house, begin, asked, paper), True)
                self.assertEqual(deeds(paper), rank_of(rows, begin))
                self.assertRaises(NoPaper, never_holds, house, begin, asked, least_standings(rows))
            else:
                self.assertIs(never_holds(house, begin, asked, paper), True)
                self.assertIsNone(rank_of(rows, begin))
                self.assertFalse(set(paper) & standings_under(begin))

    def test_nothing_in_common_and_nothing_left_out(self):
        rng = chance(302)
        for _ in range(100):
            grown, expression = some_grown(rng, "abc"), some_expression(rng, "abc", 3, 3)
            outside, beyond = outside_of_grown("abc", grown), outside_of("abc", expression)
            for word in all_words("abc", 4):
                self.assertNotEqual(has(grown, word), expression_has(outside, word))
                self.assertNotEqual(has(beyond, word), expression_has(expression, word))
            self.assertEqual(parting(outside, expression) is None, outside == plain(expression))

    def test_all_that_comes_of_a_grammar(self):
        rng = chance(303)
        for turn in range(150):
            grammar = grammar_by_chance(rng) if turn % 4 else grammar_of(some_machine(rng))
            down, least_words = down_of(grammar), least_of(grammar)
            inside = words_in(down, all_words("abc", 4))
            for word in all_words("abc", 4):
                tree = tree_above(grammar, word)
                self.assertEqual(tree is not None, word in inside)
                if tree is not None:
                    self.assertTrue(is_tree(grammar, 0, tree))
                    self.assertIn(word, subwords(word_of(grammar, tree)))
                    self.assertTrue(expression_has(down, word_of(grammar, tree)))
                    self.assertTrue(has(least_words, word_of(grammar, tree)))
            self.assertIsNone(tree_outside(grammar, down))
            for word in least_words:
                if len(word) <= 4:
                    self.assertIn(word, words_of(grammar, 4))

    def test_two_sets_of_words(self):
        rng = chance(304)
        for _ in range(400):
            letters = rng.choice(("a", "ab", "abc"))
            ones = tuple(some_word(rng, letters, 5) for _ in range(rng.randint(1, 4)))
            others = tuple(some_word(rng, letters, 5) for _ in range(rng.randint(1, 4)))
            n = rng.randint(0, 3)
            told, length = told_apart(ones, others, n), least_length(ones, others)
            if told[0] == "alike":
                self.assertTrue(length is None or length > n)
                self.assertTrue(all(alike(word, told[1], n) for word in led_to(told[1], told[2], n)))
            else:
                self.assertLessEqual(length, n)
                saying = put_together(ones, others, told[1])
                self.assertEqual([holds(saying, word) for word in ones + others], [True] * len(ones) + [False] * len(others))


class HandedInAndTold(unittest.TestCase):
    def asked(self):
        rng = chance(305)
        house = some_house(rng)
        begin, asked = some_standing(rng, house), some_standing(rng, house)
        words = [some_word(rng, "abc", 6) for _ in range(12)]
        grammar = (2, ((0, ("a", 1, "b")), (1, (0, "c")), (1, ()), (0, ("c",))))
        rows = search(house, asked)
        run = tuple(steps_here(house, begin)[:1])
        expression = (tuple([("any", "ab"), ("maybe", "c")]), ())
        return ((least, words), (above_both, "ab", "ba"), (places, "ab", "cacb"), (search, house, asked),
                (ahead_of, house, asked), (rank_of, rows, begin), (least_standings, rows), (steps_here, house, begin),
                (walked, house, begin, run), (answered, house, begin, asked), (words_of, grammar, 4), (down_of, grammar),
                (least_of, grammar), (tree_above, grammar, "ac"), (tree_outside, grammar, expression),
                (grammar_of, (2, 1, (0,), ((1, "a", 0),))), (answers, "abc", 2), (led_to, "abab", "baba", 2),
                (told_apart, ("a", "b"), ("ab", ""), 1), (put_together, ("a", "b"), ("ab", ""), ("a", "b")),
                (outside_of, "abc", expression), (outside_of_grown, "abc", ("ab", "cc")))

    def test_what_is_handed_in_is_not_changed(self):
        for function, *arguments in self.asked():
            kept = copy.deepcopy(arguments)
            function(*arguments)
            self.assertEqual(arguments, kept, function.__name__)

    def test_what_is_told_is_the_askers_own(self):
        first = []
        for function, *arguments in self.asked():
            told = function(*arguments)
            first.append(copy.deepcopy(told))
            if isinstance(told, list):
                self.assertFalse(any(told is argument for argument in arguments))
                told.clear()
        again = [function(*arguments) for function, *arguments in reversed(self.asked())]
        self.assertEqual(again, first[::-1])
