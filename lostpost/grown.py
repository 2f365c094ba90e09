"""Sets of words that only grow, told by their least words."""

from lostpost.chains import told_from_last
from lostpost.words import least, one_lies_under, put_ahead, without_needless_first, word_order

ALL_WORDS = ("",)
NO_WORDS = ()


def has(grown, word):
    return one_lies_under(grown, word)


def grown_within(one, other):
    return all([has(other, word) for word in one])


def grown_joined(one, other):
    return tuple(least(one + other))


# Which words may follow a letter: again a grown set, at least as great. Only a
# shortened word can newly lie under another one; it lies under the one it came of.
def grown_behind(grown, letter):
    shortened = [word[1:] for word in grown if word[:1] == letter]
    kept = [word for word in grown if not one_lies_under(shortened, word)]
    return tuple(sorted(shortened + kept, key=word_order))


def least_by_first(moves, told):
    words = []
    for letter, state in moves.items():
        words.extend(put_ahead(letter, told[state]))
    return tuple(without_needless_first(words))


# A letter with which no least word begins changes nothing where it stands, so it
# is the first one of no least word of what both have.
def met_moves(both):
    moves = {}
    if ALL_WORDS not in both and NO_WORDS not in both:
        for letter in sorted(set([word[0] for word in both[0] + both[1]])):
            moves[letter] = (grown_behind(both[0], letter), grown_behind(both[1], letter))
    return moves


def met_told(both, moves, told):
    if both[0] == ALL_WORDS:
        return both[1]
    if both[1] == ALL_WORDS:
        return both[0]
    return least_by_first(moves, told)


def grown_met(one, other):
    return told_from_last((one, other), met_moves, met_told)
