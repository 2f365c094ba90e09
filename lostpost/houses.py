"""Houses of hands and lines, and their standings."""

from lostpost.errors import NoHouse
from lostpost.words import is_alphabet, lies_under


def is_there(number, count):
    return 0 <= number < count


def is_letter_of(letters, text):
    return len(text) == 1 and text in letters


def is_deed(house, deed):
    kind = deed[0]
    if kind == "go":
        return True
    if kind in ("set", "if"):
        return is_there(deed[1], house[2]) and is_there(deed[2], 2)
    if not is_there(deed[1], house[1]):
        return False
    return kind == "empty" or is_letter_of(house[0], deed[2])


def is_rule(house, rooms, rule):
    return is_there(rule[0], rooms) and is_there(rule[2], rooms) and is_deed(house, rule[1])


def look_hand(house, number):
    rooms = house[3][number][0]
    rules = house[3][number][1]
    if not 1 <= rooms <= 3:
        raise NoHouse("rooms", number)
    if len(rules) > 5:
        raise NoHouse("rules", number)
    if not all([is_rule(house, rooms, rule) for rule in rules]):
        raise NoHouse("rule", number)


def look_house(house):
    letters = house[0]
    if not is_alphabet(letters) or not 1 <= len(letters) <= 3:
        raise NoHouse("letters", len(letters))
    if not 1 <= house[1] <= 2:
        raise NoHouse("lines", house[1])
    if not 0 <= house[2] <= 2:
        raise NoHouse("flags", house[2])
    if not 1 <= len(house[3]) <= 2:
        raise NoHouse("hands", len(house[3]))
    for number in range(len(house[3])):
        look_hand(house, number)
    return True


def all_there(numbers, counts):
    if len(numbers) != len(counts):
        return False
    return all([is_there(number, count) for number, count in zip(numbers, counts)])


def has_letters(letters, word):
    return all([letter in letters for letter in word])


def is_standing(house, standing):
    rooms = [hand[0] for hand in house[3]]
    if not all_there(standing[0], rooms) or not all_there(standing[1], [2] * house[2]):
        return False
    return len(standing[2]) == house[1] and all([has_letters(house[0], word) for word in standing[2]])


def is_above(one, other):
    if one[:2] != other[:2] or len(one[2]) != len(other[2]):
        return False
    return all([lies_under(less, more) for less, more in zip(other[2], one[2])])
