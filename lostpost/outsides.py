"""What lies outside of grown sets and of expressions."""

from lostpost.chains import changing_moves, told_from_last
from lostpost.expressions import expression_behind, plain, products_by_moves
from lostpost.grown import ALL_WORDS, grown_behind, least_by_first


def outside_of_grown(letters, grown):
    def moves_of(state):
        return changing_moves(letters, state, grown_behind)

    def told_of(state, moves, told):
        return () if state == ALL_WORDS else products_by_moves(letters, moves, told)

    return told_from_last(grown, moves_of, told_of)


def outside_of(letters, expression):
    def moves_of(state):
        return changing_moves(letters, state, expression_behind)

    def told_of(state, moves, told):
        return ALL_WORDS if state == () else least_by_first(moves, told)

    return told_from_last(plain(expression), moves_of, told_of)
