"""Words, and which of them lie under which."""


def is_word(text):
    return all(["a" <= sign <= "z" for sign in text])


def is_letter(text):
    return len(text) == 1 and is_word(text)


def is_alphabet(text):
    rising = all([text[k - 1] < text[k] for k in range(1, len(text))])
    return is_word(text) and rising


def word_order(word):
    return (len(word), word)


def show_word(word):
    return "." if word == "" else word


def places(less, more):
    # The earliest place for each letter leaves the most room for those behind it.
    found = []
    start = 0
    for letter in less:
        place = more.find(letter, start)
        if place < 0:
            return None
        found.append(place)
        start = place + 1
    return found


def lies_under(less, more):
    return places(less, more) is not None


def one_lies_under(words, more):
    for less in words:
        if lies_under(less, more):
            return True
    return False


def least(words):
    # What lies under a word is no longer than it, so it has come up before;
    # a word that comes again lies above itself.
    kept = []
    for word in sorted(words, key=word_order):
        if not one_lies_under(kept, word):
            kept.append(word)
    return kept


# Of a set that only grows, the least words are asked. Handed in are, for each
# letter, the least ones of what may follow it, with the letter put ahead. One of
# these isn't least just where it stays in the set without its first letter; then
# what is left is itself a least word of the set, one letter shorter.
def without_needless_first(words):
    kept = {}
    for word in sorted(words, key=word_order):
        if word[1:] not in kept:
            kept[word] = True
    return list(kept)


def put_ahead(letter, words):
    return [letter + word for word in words]


def above_ends(one, other, above):
    if one == "" or other == "":
        return [one + other]
    if one[0] == other[0]:
        return put_ahead(one[0], above[(one[1:], other[1:])])
    either = put_ahead(one[0], above[(one[1:], other)]) + put_ahead(other[0], above[(one, other[1:])])
    return without_needless_first(either)


def above_both(one, other):
    above = {}
    for i in range(len(one), -1, -1):
        for j in range(len(other), -1, -1):
            above[(one[i:], other[j:])] = above_ends(one[i:], other[j:], above)
    return list(above[(one, other)])
