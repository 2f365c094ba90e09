"""Sayings that hold of words or not."""

from lostpost.apart import tells_apart
from lostpost.words import lies_under


# A saying and all sayings within it, each ahead of its own parts. A list of what
# waits stands in the place of calls within calls, so that deep sayings do no harm.
def all_within(saying):
    found = []
    waiting = [saying]
    while waiting:
        last = waiting.pop()
        found.append(last)
        if last[0] in ("not", "and", "or"):
            waiting.extend(last[1:])
    return found


def holds(saying, word):
    values = []
    for part in reversed(all_within(saying)):
        kind = part[0]
        if kind in ("yes", "no"):
            values.append(kind == "yes")
        elif kind == "in":
            values.append(lies_under(part[1], word))
        elif kind == "not":
            values.append(not values.pop())
        else:
            both = [values.pop(), values.pop()]
            values.append(all(both) if kind == "and" else any(both))
    return values[0]


def saying_between(one, other, questions):
    asked = [question for question in questions if tells_apart(question, one, other)][0]
    return ("in", asked) if lies_under(asked, one) else ("not", ("in", asked))


def saying_of_one(one, others, questions):
    saying = ("yes",)
    for other in others:
        if holds(saying, other):
            part = saying_between(one, other, questions)
            saying = part if saying == ("yes",) else ("and", saying, part)
    return saying


def put_together(ones, others, questions):
    saying = ("no",)
    for one in ones:
        if not holds(saying, one):
            part = saying_of_one(one, others, questions)
            saying = part if saying == ("no",) else ("or", saying, part)
    return saying
