"""The texts of expressions."""

from lostpost.errors import NoText
from lostpost.words import is_alphabet, is_word


def show_piece(piece):
    signs = piece[1]
    return f"{signs}?" if piece[0] == "maybe" else f"[{signs}]"


def show_product(product):
    if product == ():
        return "."
    return " ".join([show_piece(piece) for piece in product])


def show_expression(expression):
    if expression == ():
        return "none"
    return " | ".join([show_product(product) for product in expression])


def piece_of(word):
    if len(word) == 2 and is_word(word[0]) and word[1] == "?":
        return ("maybe", word[0])
    letters = word[1:-1]
    if letters != "" and word == f"[{letters}]" and is_alphabet(letters):
        return ("any", letters)
    return None


def read_products(words):
    products = []
    pieces = []
    dotted = False
    for at, word in enumerate(words):
        piece = piece_of(word)
        if word == "|" and (pieces or dotted):
            products.append(tuple(pieces))
            pieces = []
            dotted = False
        elif word == "." and not pieces and not dotted:
            dotted = True
        elif piece is not None and not dotted:
            pieces.append(piece)
        else:
            raise NoText(at)
    if not pieces and not dotted:
        raise NoText(len(words))
    products.append(tuple(pieces))
    return tuple(products)


def read_expression(text):
    words = text.split(" ")
    if words[0] != "none":
        return read_products(words)
    if len(words) > 1:
        raise NoText(1)
    return ()
