"""Trees whose words lie above a word, or outside of an expression."""

from lostpost.downs import down_of
from lostpost.expressions import ends_behind, expression_has, is_in_one


# The letters of a tree's word are walked along the asked word: each that is the next
# one there leads on by a place. So the word lies above a part of the asked one that
# begins where the walk begins and ends where it ends. Told of a thing, from a place
# on: where its walks end, the size of the least tree for each, the tree in a tuple.
def ways_of_thing(thing, word, begin, best):
    if isinstance(thing, int):
        ends = [end for end in range(begin, len(word) + 1) if (thing, begin, end) in best]
        return [(end,) + best[(thing, begin, end)] for end in ends]
    end = begin + 1 if word[begin:begin + 1] == thing else begin
    return [(end, 0, ())]


def ways_of_body(body, word, begin, best):
    ways = {begin: (1, ())}
    for thing in body:
        longer = {}
        for place, way in ways.items():
            for end, size, kids in ways_of_thing(thing, word, place, best):
                if end not in longer or way[0] + size < longer[end][0]:
                    longer[end] = (way[0] + size, way[1] + kids)
        ways = longer
    return ways


# For each name and each part of the word, best has the least tree found so far.
def find_better(grammar, word, best):
    found = False
    for number, rule in enumerate(grammar[1]):
        for begin in range(len(word) + 1):
            ways = ways_of_body(rule[1], word, begin, best)
            for end, way in ways.items():
                part = (rule[0], begin, end)
                if part not in best or way[0] < best[part][0]:
                    best[part] = (way[0], ((number, way[1]),))
                    found = True
    return found


def tree_above(grammar, word):
    best = {}
    while find_better(grammar, word, best):
        pass
    whole = (0, 0, len(word))
    return best[whole][1][0] if whole in best else None


def changing_letters(ends, letters):
    return [letter for letter in letters if ends_behind(ends, letter) != ends]


# A word of the product that no product of the expression has, where it is within
# none of them. Letters that change nothing in what may follow are left out; of an
# any, others are taken until none changes anything, so no more of them ever would.
def word_outside(product, expression):
    word = ""
    ends = expression
    for kind, letters in product:
        taken = changing_letters(ends, letters)
        while taken:
            word = word + taken[0]
            ends = ends_behind(ends, taken[0])
            taken = [] if kind == "maybe" else changing_letters(ends, letters)
    return word


def shortened_outside(word, expression):
    place = 0
    while place < len(word):
        shorter = word[:place] + word[place + 1:]
        if expression_has(expression, shorter):
            place += 1
        else:
            word = shorter
    return word


def tree_outside(grammar, expression):
    for product in down_of(grammar):
        if not is_in_one(product, expression):
            word = word_outside(product, expression)
            return tree_above(grammar, shortened_outside(word, expression))
    return None
