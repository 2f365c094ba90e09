"""Products of pieces, and the plain forms of many of them."""


def covers(piece, other):
    return piece[0] == "any" and all([letter in piece[1] for letter in other[1]])


def piece_within(less, more):
    return less[1] in more[1] if less[0] == "maybe" else covers(more, less)


# Where in a product, from a place on, one may go on behind a piece; None where it
# has no room there. The earliest place is the best: whatever can follow a later
# one can follow it too.
def place_behind(product, start, piece):
    for place in range(start, len(product)):
        if piece_within(piece, product[place]):
            return place if product[place][0] == "any" else place + 1
    return None


def product_within(one, other):
    place = 0
    for piece in one:
        place = place_behind(other, place, piece)
        if place is None:
            return False
    return True


# A product has a word just where it has all words under that word.
def product_has(product, word):
    return product_within([("maybe", letter) for letter in word], product)


def plain_product(product):
    kept = []
    for piece in product:
        while kept and covers(piece, kept[-1]):
            kept.pop()
        if not (kept and covers(kept[-1], piece)):
            kept.append(piece)
    return tuple(kept)


def is_within_another(product, products):
    for other in products:
        if other != product and product_within(product, other):
            return True
    return False


def plain_products(products):
    unlike = sorted(set([plain_product(product) for product in products]))
    return tuple([product for product in unlike if not is_within_another(product, unlike)])


def piece_ahead(piece, products):
    return plain_products([(piece,) + product for product in products])


# What both ends have, by what the ends without their first pieces have. Where
# neither first piece covers the other one, a letter that isn't in both of them
# leaves at least one of them behind.
def met_ends(one, other, met):
    if one == () or other == ():
        return ((),)
    if one[0] == other[0]:
        return piece_ahead(one[0], met[(one[1:], other[1:])])
    if covers(other[0], one[0]):
        return piece_ahead(one[0], met[(one[1:], other)])
    if covers(one[0], other[0]):
        return piece_ahead(other[0], met[(one, other[1:])])
    either = plain_products(met[(one[1:], other)] + met[(one, other[1:])])
    shared = "".join([letter for letter in one[0][1] if letter in other[0][1]])
    return piece_ahead(("any", shared), either) if shared else either


def products_met(one, other):
    met = {}
    for i in range(len(one), -1, -1):
        for j in range(len(other), -1, -1):
            met[(one[i:], other[j:])] = met_ends(one[i:], other[j:], met)
    return met[(one, other)]
