"""From an asked standing back to all from which one comes there."""

from lostpost.errors import TooMany
from lostpost.houses import is_above
from lostpost.runs import put_at


def flags_ahead(flags, deed):
    if deed[0] not in ("set", "if"):
        return [flags]
    if flags[deed[1]] != deed[2]:
        return []
    if deed[0] == "if":
        return [flags]
    return [put_at(flags, deed[1], 0), put_at(flags, deed[1], 1)]


# A letter that was sent may get lost at once, and a line gets empty by losses; so
# a send leads to any word, and empty hinders only where letters are asked behind it.
def words_ahead(words, deed):
    if deed[0] not in ("send", "take", "empty"):
        return [words]
    word = words[deed[1]]
    if deed[0] == "take":
        return [put_at(words, deed[1], deed[2] + word)]
    if deed[0] == "send" and word.endswith(deed[2]):
        return [put_at(words, deed[1], word[:-1])]
    return [words] if deed[0] == "send" or word == "" else []


def ahead_by(standing, hand, rule):
    if standing[0][hand] != rule[2]:
        return []
    rooms = put_at(standing[0], hand, rule[0])
    standings = []
    for flags in flags_ahead(standing[1], rule[1]):
        for words in words_ahead(standing[2], rule[1]):
            standings.append((rooms, flags, words))
    return standings


# Each least standing ahead stands among these, and its rule can be done there
# without a loss ahead.
def ways_ahead(house, standing):
    ways = {}
    for hand, rooms_and_rules in enumerate(house[3]):
        for number, rule in enumerate(rooms_and_rules[1]):
            for ahead in ahead_by(standing, hand, rule):
                ways.setdefault(ahead, (hand, number))
    return ways


def is_above_one(standing, others):
    for other in others:
        if is_above(standing, other):
            return True
    return False


def letters_on_lines(standing):
    return sum([len(word) for word in standing[2]])


def least_ones(standings):
    # What lies under a standing has no more letters than it, so it has come up before.
    kept = []
    for standing in sorted(standings, key=letters_on_lines):
        if not is_above_one(standing, kept):
            kept.append(standing)
    return sorted(kept)


def ahead_of(house, standing):
    return least_ones(list(ways_ahead(house, standing)))


def next_rank(house, rows, rank):
    ways = {}
    for number, row in enumerate(rows):
        if row[1] == rank - 1:
            for standing, way in ways_ahead(house, row[0]).items():
                ways.setdefault(standing, way + (number,))
    known = [row[0] for row in rows]
    fresh = [standing for standing in ways if not is_above_one(standing, known)]
    return [(standing, rank) + ways[standing] for standing in least_ones(fresh)]


def search(house, asked, most=200):
    rows = []
    found = [(asked, 0, None, None, None)]
    while found:
        rows = rows + found
        if len(rows) > most:
            raise TooMany(most)
        found = next_rank(house, rows, rows[-1][1] + 1)
    return rows


def rank_of(rows, standing):
    return min([row[1] for row in rows if is_above(standing, row[0])], default=None)


def least_standings(rows):
    return tuple(least_ones([row[0] for row in rows]))
