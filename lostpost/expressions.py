"""Expressions: sets of words that only shrink."""

from lostpost.products import place_behind, plain_products, product_has, product_within, products_met


def expression_has(expression, word):
    return any([product_has(product, word) for product in expression])


def is_in_one(product, expression):
    for other in expression:
        if product_within(product, other):
            return True
    return False


def within(one, other):
    return all([is_in_one(product, other) for product in one])


def plain(expression):
    return plain_products(expression)


def joined(one, other):
    return plain(one + other)


# A product within the other expression is whole in what both have, and what it has in
# common with any product there lies within it; so only the others need to be met.
def met(one, other):
    firsts = plain(one)
    seconds = plain(other)
    whole = [product for product in firsts if is_in_one(product, seconds)]
    whole.extend([product for product in seconds if is_in_one(product, firsts)])
    shared = list(whole)
    for first in [product for product in firsts if product not in whole]:
        for second in [product for product in seconds if product not in whole]:
            shared.extend(products_met(first, second))
    return plain(tuple(shared))


# Which words may follow a letter: again an expression, at most as great.
def ends_behind(expression, letter):
    ends = []
    for product in expression:
        place = place_behind(product, 0, ("maybe", letter))
        if place is not None:
            ends.append(product[place:])
    return tuple(ends)


def expression_behind(expression, letter):
    return plain(ends_behind(expression, letter))


def letters_in(expression):
    texts = []
    for product in expression:
        texts.extend([piece[1] for piece in product])
    return sorted(set("".join(texts)))


# Words are looked at in their order, each with what may follow it in the one and
# in the other, told plain. Where this is the same in both, or has come up before,
# no word that goes on so can be the first.
def parting(one, other):
    letters = letters_in(one + other)
    rows = [("", plain(one), plain(other))]
    seen = {}
    while rows:
        longer = []
        for word, left, right in rows:
            if left == right or (left, right) in seen:
                continue
            if left == () or right == ():
                return word
            seen[(left, right)] = True
            for letter in letters:
                longer.append((word + letter, expression_behind(left, letter), expression_behind(right, letter)))
        rows = longer
    return None
