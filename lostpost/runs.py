"""Runs, step by step, with their losses."""

from lostpost.errors import NoStep
from lostpost.houses import is_there


def put_at(parts, place, part):
    return parts[:place] + (part,) + parts[place + 1:]


def lets_do(standing, deed):
    kind = deed[0]
    if kind == "take":
        return standing[2][deed[1]].startswith(deed[2])
    if kind == "empty":
        return standing[2][deed[1]] == ""
    if kind == "if":
        return standing[1][deed[1]] == deed[2]
    return True


def may_be_done(standing, hand, rule):
    return standing[0][hand] == rule[0] and lets_do(standing, rule[1])


def steps_here(house, standing):
    steps = []
    for hand, rooms_and_rules in enumerate(house[3]):
        for number, rule in enumerate(rooms_and_rules[1]):
            if may_be_done(standing, hand, rule):
                steps.append(("do", hand, number))
    return steps


def words_behind(words, deed):
    kind = deed[0]
    if kind == "send":
        return put_at(words, deed[1], words[deed[1]] + deed[2])
    if kind == "take":
        return put_at(words, deed[1], words[deed[1]][1:])
    return words


def flags_behind(flags, deed):
    if deed[0] == "set":
        return put_at(flags, deed[1], deed[2])
    return flags


def behind_rule(standing, hand, rule):
    rooms = put_at(standing[0], hand, rule[2])
    return (rooms, flags_behind(standing[1], rule[1]), words_behind(standing[2], rule[1]))


def behind_loss(standing, line, place):
    word = standing[2][line]
    return (standing[0], standing[1], put_at(standing[2], line, word[:place] + word[place + 1:]))


def behind(house, standing, step):
    if step[0] == "lose":
        return behind_loss(standing, step[1], step[2])
    return behind_rule(standing, step[1], house[3][step[1]][1][step[2]])


def can_be(house, standing, step):
    if step[0] == "do":
        return step in steps_here(house, standing)
    words = standing[2]
    return is_there(step[1], len(words)) and is_there(step[2], len(words[step[1]]))


def walked(house, standing, run):
    standings = []
    here = standing
    for at, step in enumerate(run):
        if not can_be(house, here, step):
            raise NoStep(at)
        here = behind(house, here, step)
        standings.append(here)
    return standings


def deeds(run):
    return len([step for step in run if step[0] == "do"])
