"""Grammars and their trees."""

from lostpost.errors import NoGrammar
from lostpost.houses import is_there
from lostpost.words import is_letter


def names_in(body):
    return [thing for thing in body if isinstance(thing, int)]


def is_thing(names, thing):
    if isinstance(thing, int):
        return is_there(thing, names)
    return is_letter(thing)


def is_let_by(names, rule):
    body = rule[1]
    if not is_there(rule[0], names) or len(body) > 3 or len(names_in(body)) > 2:
        return False
    return all([is_thing(names, thing) for thing in body])


def look_grammar(grammar):
    names = grammar[0]
    rules = grammar[1]
    if not 1 <= names <= 3:
        raise NoGrammar(-1)
    for at, rule in enumerate(rules):
        if not is_let_by(names, rule):
            raise NoGrammar(at)
    if len(rules) > 6:
        raise NoGrammar(len(rules))
    return True


def is_pair(tree):
    if not isinstance(tree, tuple) or len(tree) != 2:
        return False
    return isinstance(tree[0], int) and isinstance(tree[1], tuple)


def is_of_name(grammar, name, tree):
    return is_pair(tree) and is_there(tree[0], len(grammar[1])) and grammar[1][tree[0]][0] == name


# Trees may be deeper than calls within calls may go, so what waits is kept in a list.
def is_tree(grammar, name, tree):
    waiting = [(name, tree)]
    while waiting:
        wanted = waiting.pop()
        if not is_of_name(grammar, wanted[0], wanted[1]):
            return False
        rule = wanted[1][0]
        kids = wanted[1][1]
        names = names_in(grammar[1][rule][1])
        if len(kids) != len(names):
            return False
        waiting.extend(list(zip(names, kids)))
    return True


def parts_of(grammar, tree):
    kids = list(tree[1])
    parts = []
    for thing in grammar[1][tree[0]][1]:
        parts.append(kids.pop(0) if isinstance(thing, int) else thing)
    return parts


def word_of(grammar, tree):
    letters = []
    waiting = [tree]
    while waiting:
        part = waiting.pop()
        if isinstance(part, str):
            letters.append(part)
        else:
            waiting.extend(list(reversed(parts_of(grammar, part))))
    return "".join(letters)


def size_of(tree):
    size = 0
    waiting = [tree]
    while waiting:
        last = waiting.pop()
        size += 1
        waiting.extend(last[1])
    return size
