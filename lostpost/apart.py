"""Sets of words told apart by questions."""

from lostpost.questions import alike, answers
from lostpost.words import lies_under


def first_alike(ones, others, n):
    for one in ones:
        for other in others:
            if alike(one, other, n):
                return (one, other)
    return None


def tells_apart(question, one, other):
    return lies_under(question, one) != lies_under(question, other)


def tell_all_apart(questions, ones, others):
    for one in ones:
        for other in others:
            if not any([tells_apart(question, one, other) for question in questions]):
                return False
    return True


# What is needed among many questions is needed among fewer of them, so each is looked
# at but once; long ones first, so that short ones stay.
def needed_ones(questions, ones, others):
    kept = questions
    for question in reversed(questions):
        rest = [other for other in kept if other != question]
        if tell_all_apart(rest, ones, others):
            kept = rest
    return kept


def told_apart(ones, others, n):
    both = first_alike(ones, others, n)
    if both is not None:
        return ("alike",) + both
    questions = []
    for word in ones + others:
        questions.extend(answers(word, n))
    unlike = sorted(sorted(set(questions)), key=len)
    return ("questions", tuple(needed_ones(unlike, ones, others)))


def least_length(ones, others):
    if any([one in others for one in ones]):
        return None
    n = 0
    while first_alike(ones, others, n) is not None:
        n += 1
    return n
