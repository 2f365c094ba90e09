"""Questions that are asked of words."""

from lostpost.words import word_order


def answers(word, n):
    found = {"": True}
    for letter in word:
        longer = [question + letter for question in found if len(question) < n]
        found.update(dict([(question, True) for question in longer]))
    return tuple(sorted(found, key=word_order))


def alike(one, other, n):
    return answers(one, n) == answers(other, n)
