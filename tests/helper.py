"""What several tests need: words, chance with a fixed seed, and other ways to reckon the same."""

import itertools
import random
import re

LETTERS = ("a", "ab", "abc")


def chance(seed):
    return random.Random(seed)


def all_words(letters, most):
    """All words of these letters of at most so many letters, in order."""
    rows = [itertools.product(letters, repeat=length) for length in range(most + 1)]
    return ["".join(row) for row in itertools.chain(*rows)]


def subwords(word):
    """All words under a word, by leaving letters out in each possible way."""
    return {"".join(row) for length in range(len(word) + 1) for row in itertools.combinations(word, length)}


def in_order(words):
    return sorted(words, key=lambda word: (len(word), word))


def least_by_hand(words):
    unlike = set(words)
    return in_order(word for word in unlike if not any(other in unlike for other in subwords(word) - {word}))


def some_word(rng, letters, most, fewest=0):
    return "".join(rng.choice(letters) for _ in range(rng.randint(fewest, most)))


def some_grown(rng, letters, count=3, most=3):
    fewest = 0 if rng.random() < 0.1 else 1
    words = [some_word(rng, letters, most, fewest) for _ in range(rng.randint(0, count))]
    return tuple(least_by_hand(words))


def some_piece(rng, letters):
    if rng.random() < 0.55:
        return ("maybe", rng.choice(letters))
    return ("any", "".join(sorted(rng.sample(letters, rng.randint(1, len(letters))))))


def some_product(rng, letters, most=5):
    return tuple(some_piece(rng, letters) for _ in range(rng.randint(0, most)))


def some_expression(rng, letters, products=3, pieces=5):
    return tuple(some_product(rng, letters, pieces) for _ in range(rng.randint(0, products)))


def pattern(product):
    return "".join(f"{signs}?" if kind == "maybe" else f"[{signs}]*" for kind, signs in product)


def words_in(expression, words):
    """Which of the words an expression has, by a pattern of Python's own."""
    patterns = [re.compile(pattern(product)) for product in expression]
    return {word for word in words if any(one.fullmatch(word) for one in patterns)}


def product(text):
    """A product written shortly: `a` a maybe, `(ab)` an any."""
    return tuple(("any", many) if many else ("maybe", one) for many, one in re.findall(r"\(([a-z]+)\)|([a-z])", text))
