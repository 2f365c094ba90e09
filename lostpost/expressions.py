"""Expressions: sets of words that only shrink."""

from lostpost.chains import changing_moves, told_from_last
from lostpost.products import place_behind, plain_products, product_has, product_within


def expression_has(expression, word):
    return any([product_has(product, word) for product in expression])


def is_in_one(product, expression):
    for other in expression:
        if product_within(product, other):
            return True
    return False


def within(one, other):
    return all([is_in_one(product, other) for product in one])


def plain(expression):
    return plain_products(expression)


def joined(one, other):
    return plain(one + other)


# Which words may follow a letter: again an expression, at most as great.
def ends_behind(expression, letter):
    ends = []
    for product in expression:
        place = place_behind(product, 0, ("maybe", letter))
        if place is not None:
            ends.append(product[place:])
    return tuple(ends)


def expression_behind(expression, letter):
    return plain(ends_behind(expression, letter))


def letters_in(expression):
    texts = []
    for product in expression:
        texts.extend([piece[1] for piece in product])
    return sorted(set("".join(texts)))


# The words that may stand from a place on: letters that change nothing as often as one
# likes, then perhaps one of the moves and what is told behind it.
def products_by_moves(letters, moves, told):
    staying = "".join([letter for letter in letters if letter not in moves])
    begin = (("any", staying),) if staying else ()
    products = [begin]
    for letter, further in moves.items():
        products.extend([begin + (("maybe", letter),) + product for product in told[further]])
    return plain(tuple(products))


def both_behind(both, letter):
    return (expression_behind(both[0], letter), expression_behind(both[1], letter))


# Told ones may have hundreds of products, too many to meet each two of them; they are
# met by what may follow each letter in both.
def met(one, other):
    letters = letters_in(one + other)

    def moves_of(both):
        return {} if () in both or both[0] == both[1] else changing_moves(letters, both, both_behind)

    def told_of(both, moves, told):
        if () in both:
            return ()
        return both[0] if both[0] == both[1] else products_by_moves(letters, moves, told)

    return told_from_last((plain(one), plain(other)), moves_of, told_of)


# Words are looked at in their order, each with what may follow it in the one and
# in the other, told plain. Where this is the same in both, or has come up before,
# no word that goes on so can be the first.
def parting(one, other):
    letters = letters_in(one + other)
    rows = [("", plain(one), plain(other))]
    seen = {}
    while rows:
        longer = []
        for word, left, right in rows:
            if left == right or (left, right) in seen:
                continue
            if left == () or right == ():
                return word
            seen[(left, right)] = True
            for letter in letters:
                longer.append((word + letter, expression_behind(left, letter), expression_behind(right, letter)))
        rows = longer
    return None
