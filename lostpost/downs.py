"""All words under a grammar's words, and all above them."""

from lostpost.chains import told_from_last
from lostpost.expressions import plain
from lostpost.grammars import names_in
from lostpost.makes import makers, rules_made_of, words_by_rules
from lostpost.words import least


def names_below(rules, name):
    below = {}
    waiting = [name]
    while waiting:
        upper = waiting.pop()
        for made, body in rules:
            if made == upper:
                fresh = [lower for lower in names_in(body) if lower not in below]
                below.update(dict([(lower, True) for lower in fresh]))
                waiting.extend(fresh)
    return list(below)


# The names that come below a name and it below them, and the name itself.
def ring_of(rules, name):
    others = [other for other in names_below(rules, name) if other != name]
    return [name] + [other for other in others if name in names_below(rules, other)]


def letters_from(rules, things):
    names = names_in(things)
    for name in names_in(things):
        names.extend(names_below(rules, name))
    parts = [things] + [body for name, body in rules if name in names]
    letters = []
    for part in parts:
        letters.extend([thing for thing in part if isinstance(thing, str)])
    return "".join(sorted(set(letters)))


def any_of(letters):
    return (("any", letters),) if letters else ()


def down_of_body(body, told):
    begins = [()]
    for thing in body:
        longer = []
        for end in told[thing] if isinstance(thing, int) else ((("maybe", thing),),):
            longer.extend([begin + end for begin in begins])
        begins = longer
    return begins


# The rules of a ring lead round as often as one likes: what stands left and right of
# a name of the ring comes again and again, in any order, until a rule without such a
# name ends it. Where a second name of the ring stands beside the first, all letters
# that come of it stand there, and so all of the ring.
def down_of_ring(rules, ring, told):
    lefts = []
    rights = []
    middles = []
    for body in [rule[1] for rule in rules if rule[0] in ring]:
        places = [place for place, thing in enumerate(body) if thing in ring]
        if places:
            lefts.extend(body[:places[0]])
            rights.extend(body[places[0] + 1:])
        else:
            middles.extend(down_of_body(body, told))
    begin = any_of(letters_from(rules, lefts))
    end = any_of(letters_from(rules, rights))
    return plain(tuple([begin + middle + end for middle in middles]))


def down_of(grammar):
    rules = rules_made_of(grammar, makers(grammar))

    def moves_of(name):
        ring = ring_of(rules, name)
        return dict([(lower, lower) for lower in names_below(rules, name) if lower not in ring])

    def told_of(name, moves, told):
        return down_of_ring(rules, ring_of(rules, name), told)

    return told_from_last(0, moves_of, told_of)


def least_of(grammar):
    return tuple(words_by_rules(grammar, least)[0])
