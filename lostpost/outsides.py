"""What lies outside of grown sets and of expressions."""

from lostpost.chains import told_from_last
from lostpost.expressions import expression_behind, plain
from lostpost.grown import ALL_WORDS, grown_behind, least_by_first


# The letters that change what may follow, each with what may follow it; the other
# ones may stand here as often as one likes.
def changing_moves(letters, state, behind):
    moves = {}
    for letter in letters:
        further = behind(state, letter)
        if further != state:
            moves[letter] = further
    return moves


def outside_products(letters, moves, told):
    staying = "".join([letter for letter in letters if letter not in moves])
    begin = (("any", staying),) if staying else ()
    products = [begin]
    for letter, further in moves.items():
        products.extend([begin + (("maybe", letter),) + product for product in told[further]])
    return plain(tuple(products))


def outside_of_grown(letters, grown):
    def moves_of(state):
        return changing_moves(letters, state, grown_behind)

    def told_of(state, moves, told):
        return () if state == ALL_WORDS else outside_products(letters, moves, told)

    return told_from_last(grown, moves_of, told_of)


def outside_of(letters, expression):
    def moves_of(state):
        return changing_moves(letters, state, expression_behind)

    def told_of(state, moves, told):
        return ALL_WORDS if state == () else least_by_first(moves, told)

    return told_from_last(plain(expression), moves_of, told_of)
