"""Expressions: sets of words that only shrink."""

from lostpost.products import place_behind, plain_products, product_has, product_within, products_met


def expression_has(expression, word):
    return any([product_has(product, word) for product in expression])


def is_in_one(product, expression):
    for other in expression:
        if product_within(product, other):
            return True
    return False


def within(one, other):
    return all([is_in_one(product, other) for product in one])


def plain(expression):
    return plain_products(expression)


def joined(one, other):
    return plain(one + other)


def met(one, other):
    # Told plain first, no two products are met more than once.
    seconds = plain(other)
    products = []
    for first in plain(one):
        for second in seconds:
            products.extend(products_met(first, second))
    return plain(tuple(products))


# Which words may follow a letter: again an expression, at most as great.
def expression_behind(expression, letter):
    ends = []
    for product in expression:
        place = place_behind(product, 0, ("maybe", letter))
        if place is not None:
            ends.append(product[place:])
    return plain(tuple(ends))


def letters_in(expression):
    texts = []
    for product in expression:
        texts.extend([piece[1] for piece in product])
    return sorted(set("".join(texts)))


# Words are looked at in their order, each with what may follow it in the one and
# in the other, told plain. Where this is the same in both, or has come up before,
# no word that goes on so can be the first.
def parting(one, other):
    letters = letters_in(one + other)
    rows = [("", plain(one), plain(other))]
    seen = {}
    while rows:
        longer = []
        for word, left, right in rows:
            if left == right or (left, right) in seen:
                continue
            if left == () or right == ():
                return word
            seen[(left, right)] = True
            for letter in letters:
                longer.append((word + letter, expression_behind(left, letter), expression_behind(right, letter)))
        rows = longer
    return None
