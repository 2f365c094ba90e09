"""What several tests need: words, chance with a fixed seed, and other ways to reckon the same."""

import itertools
import random
import re

LETTERS = ("a", "ab", "abc")


def chance(seed):
    return random.Random(seed)


def all_words(letters, most):
    """All words of these letters of at most so many letters, in order."""
    rows = [itertools.product(letters, repeat=length) for length in range(most + 1)]
    return ["".join(row) for row in itertools.chain(*rows)]


def subwords(word):
    """All words under a word, by leaving letters out in each possible way."""
    return {"".join(row) for length in range(len(word) + 1) for row in itertools.combinations(word, length)}


def in_order(words):
    return sorted(words, key=lambda word: (len(word), word))


def least_by_hand(words):
    unlike = set(words)
    return in_order(word for word in unlike if not any(other in unlike for other in subwords(word) - {word}))


def some_word(rng, letters, most, fewest=0):
    return "".join(rng.choice(letters) for _ in range(rng.randint(fewest, most)))


def some_grown(rng, letters, count=3, most=3):
    fewest = 0 if rng.random() < 0.1 else 1
    words = [some_word(rng, letters, most, fewest) for _ in range(rng.randint(0, count))]
    return tuple(least_by_hand(words))


def some_piece(rng, letters):
    if rng.random() < 0.55:
        return ("maybe", rng.choice(letters))
    return ("any", "".join(sorted(rng.sample(letters, rng.randint(1, len(letters))))))


def some_product(rng, letters, most=5):
    return tuple(some_piece(rng, letters) for _ in range(rng.randint(0, most)))


def some_expression(rng, letters, products=3, pieces=5):
    return tuple(some_product(rng, letters, pieces) for _ in range(rng.randint(0, products)))


def pattern(product):
    return "".join(f"{signs}?" if kind == "maybe" else f"[{signs}]*" for kind, signs in product)


def words_in(expression, words):
    """Which of the words an expression has, by a pattern of Python's own."""
    patterns = [re.compile(pattern(product)) for product in expression]
    return {word for word in words if any(one.fullmatch(word) for one in patterns)}


def product(text):
    """A product written shortly: `a` a maybe, `(ab)` an any."""
    return tuple(("any", many) if many else ("maybe", one) for many, one in re.findall(r"\(([a-z]+)\)|([a-z])", text))


def some_deed(rng, letters, lines, flags):
    kinds = ["go", "send", "send", "take", "take", "empty"] + ["set", "if"] * (flags > 0)
    kind = rng.choice(kinds)
    if kind in ("send", "take"):
        return (kind, rng.randrange(lines), rng.choice(letters))
    if kind == "empty":
        return (kind, rng.randrange(lines))
    if kind in ("set", "if"):
        return (kind, rng.randrange(flags), rng.randrange(2))
    return (kind,)


def some_house(rng, letters=None, lines=None):
    """A house let by."""
    letters = letters or rng.choice(LETTERS)
    lines = lines or rng.randint(1, 2)
    flags = rng.randint(0, 2)
    hands = []
    for _ in range(rng.randint(1, 2)):
        rooms = rng.randint(1, 3)
        deeds = [some_deed(rng, letters, lines, flags) for _ in range(rng.randint(0, 5))]
        hands.append((rooms, tuple((rng.randrange(rooms), deed, rng.randrange(rooms)) for deed in deeds)))
    return (letters, lines, flags, tuple(hands))


def some_standing(rng, house, most=4):
    letters, lines, flags, hands = house
    rooms = tuple(rng.randrange(count) for count, _ in hands)
    words = tuple(some_word(rng, letters, most) for _ in range(lines))
    return (rooms, tuple(rng.randrange(2) for _ in range(flags)), words)


def standings_under(standing):
    """All that comes of a standing by losses."""
    rooms, flags, words = standing
    return {(rooms, flags, less) for less in itertools.product(*(sorted(subwords(word)) for word in words))}


def above(one, other):
    """Whether one standing lies above another."""
    return other in standings_under(one)


def all_standings(house, most):
    """All standings of a house with words of at most so many letters."""
    letters, lines, flags, hands = house
    rooms = itertools.product(*(range(count) for count, _ in hands))
    values = itertools.product((0, 1), repeat=flags)
    words = itertools.product(all_words(letters, most), repeat=lines)
    return list(itertools.product(rooms, values, words))


def done_by_hand(house, standing, hand, number):
    """The standing behind a rule, or None where it can't be done."""
    p, (kind, *rest), q = house[3][hand][1][number]
    rooms, flags, words = (list(part) for part in standing)
    able = {
        "go": lambda: True,
        "send": lambda l, x: True,
        "take": lambda l, x: words[l][:1] == x,
        "empty": lambda l: len(words[l]) == 0,
        "set": lambda f, v: True,
        "if": lambda f, v: flags[f] == v,
    }
    if rooms[hand] != p or not able[kind](*rest):
        return None
    rooms[hand] = q
    if kind == "send":
        words[rest[0]] += rest[1]
    if kind == "take":
        words[rest[0]] = words[rest[0]][1:]
    if kind == "set":
        flags[rest[0]] = rest[1]
    return (tuple(rooms), tuple(flags), tuple(words))


def rules_of(house):
    return [(hand, number) for hand, (_, rules) in enumerate(house[3]) for number in range(len(rules))]


def with_one_deed(house, standings):
    """All that comes of these standings by one deed, with losses ahead and behind."""
    told = set()
    for less in {less for standing in standings for less in standings_under(standing)}:
        for hand, number in rules_of(house):
            behind = done_by_hand(house, less, hand, number)
            if behind is not None:
                told |= standings_under(behind)
    return told


def some_body(rng, letters, names):
    things = [rng.choice(letters) if rng.random() < 0.6 else rng.randrange(names) for _ in range(rng.randint(0, 3))]
    while sum(isinstance(thing, int) for thing in things) > 2:
        things.remove(next(thing for thing in things if isinstance(thing, int)))
    return tuple(things)


def some_grammar(rng, letters=None):
    """A grammar let by."""
    letters = letters or rng.choice(LETTERS)
    names = rng.randint(1, 3)
    return (names, tuple((rng.randrange(names), some_body(rng, letters, names)) for _ in range(rng.randint(0, 6))))


def rich_grammar(rng, letters=None):
    """A grammar let by of which most names make words, few of them below themselves."""
    letters = letters or rng.choice(LETTERS)
    names = rng.randint(1, 3)
    rules = []
    for number in range(rng.randint(4, 6)):
        name = number % names
        lower = [rng.randrange(name + 1, names) for _ in range(rng.randint(0, 2)) if name + 1 < names]
        if rng.random() < 0.2:
            lower = [rng.randrange(names)]
        body = lower + [rng.choice(letters) for _ in range(rng.randint(0, 3 - len(lower)))]
        rules.append((name, tuple(rng.sample(body, len(body)))))
    return (names, tuple(rng.sample(rules, len(rules))))


def grammar_by_chance(rng, letters=None):
    return rng.choice((some_grammar, rich_grammar))(rng, letters)


def made(grammar, most):
    """For each name the words of at most so many letters that its rules make, by trying until nothing new comes."""
    words = [set() for _ in range(grammar[0])]
    grows = True
    while grows:
        grows = False
        for name, body in grammar[1]:
            parts = [sorted(words[thing]) if isinstance(thing, int) else [thing] for thing in body]
            fresh = {"".join(row) for row in itertools.product(*parts)} - words[name]
            fresh = {word for word in fresh if len(word) <= most}
            grows = grows or bool(fresh)
            words[name] |= fresh
    return words


def some_machine(rng):
    rooms = rng.randint(1, 4)
    ends = tuple(room for room in range(rooms) if rng.random() < 0.4)
    letters = rng.choice(LETTERS)
    arrows = [(rng.randrange(rooms), rng.choice(letters), rng.randrange(rooms)) for _ in range(rng.randint(0, 6))]
    return (rooms, rng.randrange(rooms), ends, tuple(arrows))


def made_under(grammar, most):
    """For each name the words of at most so many letters under those that its rules make."""
    names, rules = grammar
    letters = sorted({thing for _, body in rules for thing in body if isinstance(thing, str)})
    numbers = {letter: names + k for k, letter in enumerate(letters)}
    left_out = [(number, ()) for number in numbers.values()]
    left_in = [(number, (letter,)) for letter, number in numbers.items()]
    bodies = [(name, tuple(numbers.get(thing, thing) for thing in body)) for name, body in rules]
    return made((names + len(letters), tuple(bodies + left_out + left_in)), most)[:names]


def under_by_size(grammar, greatest, most):
    """For each name and size the words of at most so many letters under the words of its trees of this size."""
    told = {(name, size): set() for name in range(grammar[0]) for size in range(greatest + 1)}
    for size in range(1, greatest + 1):
        for name, body in grammar[1]:
            rows = {(1, "")}
            for thing in body:
                if isinstance(thing, str):
                    rows |= {(used, word + thing) for used, word in rows}
                else:
                    rows = {(used + more, word + end) for used, word in rows
                            for more in range(1, size - used + 1) for end in told[(thing, more)]}
                rows = {(used, word) for used, word in rows if len(word) <= most}
            told[(name, size)] |= {word for used, word in rows if used == size}
    return told


def some_saying(rng, letters, deep):
    kinds = ["yes", "no", "in", "in", "in"] + ["not", "and", "or"] * 2 * (deep > 0)
    kind = rng.choice(kinds)
    if kind == "in":
        return (kind, some_word(rng, letters, 3))
    counts = {"not": 1, "and": 2, "or": 2}
    return (kind,) + tuple(some_saying(rng, letters, deep - 1) for _ in range(counts.get(kind, 0)))
