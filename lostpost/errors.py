"""The refusals."""


# No refusal has words of its own: what it was made with, which every error of
# Python's keeps and shows, tells enough.
class LostError(ValueError):
    pass


class NoText(LostError):
    def __init__(self, at):
        self.at = at


class NoHouse(LostError):
    def __init__(self, word, at):
        self.word = word
        self.at = at


class NoStep(LostError):
    def __init__(self, at):
        self.at = at


class TooMany(LostError):
    def __init__(self, most):
        self.most = most


class NoPaper(LostError):
    def __init__(self, at):
        self.at = at


class NoGrammar(LostError):
    def __init__(self, at):
        self.at = at


class NoRow(LostError):
    pass
