"""The texts of houses and of their standings."""

from lostpost.errors import NoText
from lostpost.houses import is_standing
from lostpost.words import is_alphabet, is_letter, show_word

HEADS = ("letters", "lines", "flags")
# What follows a deed's word in the row of a rule: 0 stands for a number, a for a letter.
SHAPES = {"go": "0", "send": "0a0", "take": "0a0", "empty": "00", "set": "000", "if": "000"}


def is_number(word):
    figures = all(["0" <= sign <= "9" for sign in word])
    return figures and 1 <= len(word) <= 3 and (word == "0" or word[0] != "0")


def shape_of(word):
    if is_number(word):
        return "0"
    return "a" if is_letter(word) else "?"


def value_of(word):
    return int(word) if is_number(word) else word


def show_row(parts):
    return " ".join([str(part) for part in parts])


def show_house(house):
    rows = list(zip(HEADS, house[:3]))
    for rooms, rules in house[3]:
        rows.append(("hand", rooms))
        rows.extend([(p,) + deed + (q,) for p, deed, q in rules])
    return "\n".join([show_row(row) for row in rows])


def is_head(words, at):
    if len(words) != 2 or words[0] != HEADS[at]:
        return False
    if at == 0:
        return words[1] != "" and is_alphabet(words[1])
    return is_number(words[1])


def is_hand(words):
    return len(words) == 2 and words[0] == "hand" and is_number(words[1])


def is_row_of_rule(words):
    if len(words) < 2 or not is_number(words[0]) or words[1] not in SHAPES:
        return False
    return "".join([shape_of(word) for word in words[2:]]) == SHAPES[words[1]]


def rule_of(words):
    values = tuple([value_of(word) for word in words])
    return (values[0], values[1:-1], values[-1])


def read_hands(rows):
    hands = []
    for at in range(len(HEADS), len(rows)):
        if is_hand(rows[at]):
            hands.append((int(rows[at][1]), []))
        elif hands and is_row_of_rule(rows[at]):
            hands[-1][1].append(rule_of(rows[at]))
        else:
            raise NoText(at)
    return tuple([(rooms, tuple(rules)) for rooms, rules in hands])


def read_house(text):
    rows = [row.split(" ") for row in text.split("\n")]
    for at in range(len(HEADS)):
        if at == len(rows) or not is_head(rows[at], at):
            raise NoText(at)
    return (rows[0][1], int(rows[1][1]), int(rows[2][1]), read_hands(rows))


def show_standing(standing):
    words = [show_word(word) for word in standing[2]]
    return show_row(list(standing[0]) + ["/"] + list(standing[1]) + ["/"] + words)


def standing_of(words):
    bars = [k for k, word in enumerate(words) if word == "/"]
    if len(bars) != 2:
        return None
    rooms = words[:bars[0]]
    flags = words[bars[0] + 1:bars[1]]
    lines = words[bars[1] + 1:]
    if "" in lines or not all([is_number(word) for word in rooms + flags]):
        return None
    texts = ["" if word == "." else word for word in lines]
    return (tuple([int(room) for room in rooms]), tuple([int(value) for value in flags]), tuple(texts))


def read_standing(house, text):
    standing = standing_of(text.split(" "))
    if standing is None or not is_standing(house, standing):
        raise NoText(0)
    return standing
