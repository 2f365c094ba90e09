import unittest

from lostpost.errors import LostError, NoGrammar, NoHouse, NoPaper, NoRow, NoStep, NoText, TooMany

WITH_AT = (NoText, NoStep, NoPaper, NoGrammar)
REFUSALS = WITH_AT + (NoHouse, TooMany, NoRow)


class Errors(unittest.TestCase):
    def test_any_refusal_is_a_value_error(self):
        self.assertEqual(LostError.__bases__, (ValueError,))

    def test_each_stands_right_under_it(self):
        for refusal in REFUSALS:
            self.assertEqual(refusal.__bases__, (LostError,), refusal)

    def test_at_is_kept(self):
        for refusal in WITH_AT:
            for at in (0, 7, -1, 10 ** 30):
                self.assertEqual(refusal(at).at, at)

    def test_a_house_is_refused_with_a_word_and_a_number(self):
        for word, at in (("rule", 1), ("", -3), ("any text\nat all", 0)):
            error = NoHouse(word, at)
            self.assertEqual((error.word, error.at), (word, at))

    def test_most_is_kept(self):
        for most in (200, 1, -5):
            self.assertEqual(TooMany(most).most, most)

    def test_each_is_raised_and_taken_by_either_name(self):
        for error in [refusal(3) for refusal in WITH_AT] + [NoHouse("rooms", 0), TooMany(1), NoRow()]:
            for name in (type(error), LostError, ValueError):
                with self.assertRaises(name) as taken:
                    raise error
                self.assertIs(taken.exception, error)

    def test_two_keep_what_is_their_own(self):
        first = NoText(1)
        second = NoText(2)
        self.assertEqual((first.at, second.at), (1, 2))
