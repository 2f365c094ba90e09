"""Which names of a grammar make words, and which words they make."""

from lostpost.grammars import names_in


def rules_made_of(grammar, names):
    return [rule for rule in grammar[1] if all([name in names for name in names_in(rule[1])])]


def makers(grammar):
    known = None
    making = ()
    while making != known:
        known = making
        making = tuple(sorted(set([rule[0] for rule in rules_made_of(grammar, known)])))
    return making


def words_of_body(body, words, kept):
    begins = [""]
    for thing in body:
        longer = []
        for end in words[thing] if isinstance(thing, int) else [thing]:
            longer.extend([begin + end for begin in begins])
        begins = kept(longer)
    return begins


# For each name the words that its rules make, those alone that are kept: kept(words)
# tells which ones, in order, and of what is put together it keeps the same whether
# or not the parts were kept so ahead.
def words_by_rules(grammar, kept):
    known = None
    words = [[] for name in range(grammar[0])]
    while words != known:
        known = words
        made = [[] for name in range(grammar[0])]
        for name, body in grammar[1]:
            made[name].extend(words_of_body(body, known, kept))
        words = [kept(part) for part in made]
    return words


def words_of(grammar, n):
    def short_ones(words):
        return sorted(sorted(set([word for word in words if len(word) <= n])), key=len)

    return words_by_rules(grammar, short_ones)[0]
