"""The texts of sayings."""

from lostpost.errors import NoText
from lostpost.words import is_word, show_word

# The word behind a bracket, told by its first sign.
KINDS = {"i": "in", "n": "not", "a": "and", "o": "or"}
# How many sayings stand in a saying.
COUNTS = {"not": 1, "and": 2, "or": 2}


def texts_and_sayings(saying):
    kind = saying[0]
    if kind in ("yes", "no"):
        return [kind]
    if kind == "in":
        word = show_word(saying[1])
        return [f"(in {word})"]
    if kind == "not":
        return ["(not ", saying[1], ")"]
    return [f"({kind} ", saying[1], " ", saying[2], ")"]


# Sayings may be deeper than calls within calls may go, so what waits is kept in a list.
def show_saying(saying):
    texts = []
    waiting = [saying]
    while waiting:
        last = waiting.pop()
        if isinstance(last, str):
            texts.append(last)
        else:
            waiting.extend(list(reversed(texts_and_sayings(last))))
    return "".join(texts)


def behind_signs(text, at, signs):
    for sign in signs:
        if text[at:at + 1] != sign:
            raise NoText(at)
        at += 1
    return at


def kind_at(text, at):
    sign = text[at:at + 1]
    if sign == "y":
        return "yes"
    if sign == "n":
        return "no"
    if sign != "(":
        raise NoText(at)
    if text[at + 1:at + 2] not in KINDS:
        raise NoText(at + 1)
    return KINDS[text[at + 1]]


def end_of_word(text, at):
    if text[at:at + 1] == ".":
        return at + 1
    end = at
    while end < len(text) and is_word(text[end]):
        end += 1
    if end == at:
        raise NoText(at)
    return end


# Puts a saying into those that are still open, as far as it makes them whole; tells
# the place behind, and the whole saying where none is open any more, else None.
def put_into_open(text, at, saying, opened):
    while opened:
        opened[-1].append(saying)
        if len(opened[-1]) <= COUNTS[opened[-1][0]]:
            return (behind_signs(text, at, " "), None)
        at = behind_signs(text, at, ")")
        saying = tuple(opened.pop())
    return (at, saying)


def read_saying(text):
    opened = []
    read = (0, None)
    while read[1] is None:
        kind = kind_at(text, read[0])
        if kind in COUNTS:
            opened.append([kind])
            read = (behind_signs(text, read[0], f"({kind} "), None)
        elif kind == "in":
            begin = behind_signs(text, read[0], "(in ")
            end = end_of_word(text, begin)
            word = text[begin:end].replace(".", "")
            read = put_into_open(text, behind_signs(text, end, ")"), ("in", word), opened)
        else:
            read = put_into_open(text, behind_signs(text, read[0], kind), (kind,), opened)
    if read[0] < len(text):
        raise NoText(read[0])
    return read[1]
