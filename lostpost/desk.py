"""A desk that is told rows and answers them."""

from lostpost.answers import answered
from lostpost.apart import told_apart
from lostpost.downs import down_of, least_of
from lostpost.errors import NoRow, NoText, TooMany
from lostpost.grammars import look_grammar, word_of
from lostpost.grammartexts import read_grammar
from lostpost.houses import look_house
from lostpost.housetexts import read_house, read_standing
from lostpost.runs import deeds
from lostpost.texts import show_expression
from lostpost.trees import tree_above
from lostpost.words import above_both, is_word, lies_under, show_word


# Each house has just one text here, so a line feed itself parts no rows: it becomes
# a bar, which can stand in none.
def with_line_feeds(text):
    return text.replace("\n", "|").replace(" ; ", "\n")


def standing_from(house, text):
    try:
        standing = read_standing(house, text)
    except NoText as error:
        raise NoRow() from error
    if any([len(word) > 4 for word in standing[2]]):
        raise NoRow()
    return standing


def said_of_reach(house, text):
    texts = text.split(" | ")
    if len(texts) != 2:
        raise NoRow()
    standings = [standing_from(house, part) for part in texts]
    try:
        told = answered(house, standings[0], standings[1])
    except TooMany:
        return "many"
    kind = told[0]
    count = deeds(told[1]) if kind == "run" else len(told[1])
    return f"{kind} {count}"


def word_from(text, most):
    word = "" if text == "." else text
    if text == "" or not is_word(word) or len(word) > most:
        raise NoRow()
    return word


def words_from(texts, most):
    words = [word_from(text, most) for text in texts]
    if len(set("".join(words))) > 3:
        raise NoRow()
    return words


def show_words(words):
    return " ".join([show_word(word) for word in words]) if words else "none"


def said_of_grammar(grammar, words):
    if words == ["down"]:
        return show_expression(down_of(grammar))
    if words == ["least"]:
        return show_words(least_of(grammar))
    if words[0] != "above" or len(words) != 2:
        raise NoRow()
    tree = tree_above(grammar, words_from(words[1:], 6)[0])
    return "none" if tree is None else show_word(word_of(grammar, tree))


def said_of_apart(figure, texts):
    if figure not in ("0", "1", "2", "3") or texts.count("|") != 1:
        raise NoRow()
    bar = texts.index("|")
    words = words_from(texts[:bar] + texts[bar + 1:], 5)
    ones = tuple(words[:bar])
    others = tuple(words[bar:])
    if not 1 <= len(ones) <= 4 or not 1 <= len(others) <= 4:
        raise NoRow()
    told = told_apart(ones, others, int(figure))
    if told[0] == "alike":
        return "alike " + show_words(told[1:])
    return "questions " + str(len(told[1]))


def said_of_words(words):
    if words[0] == "under" and len(words) == 3:
        both = words_from(words[1:], 9)
        return "yes" if lies_under(both[0], both[1]) else "no"
    if words[0] == "meet" and len(words) == 3:
        both = words_from(words[1:], 5)
        return show_words(above_both(both[0], both[1]))
    if words[0] == "apart" and len(words) > 1:
        return said_of_apart(words[1], words[2:])
    raise NoRow()


class Desk:
    def __init__(self):
        self.house = None
        self.grammar = None

    def keep_house(self, text):
        house = read_house(with_line_feeds(text))
        look_house(house)
        self.house = house
        return "kept"

    def keep_grammar(self, text):
        grammar = read_grammar(with_line_feeds(text))
        look_grammar(grammar)
        self.grammar = grammar
        return "kept"

    def say(self, row):
        words = row.split(" ")
        rest = row.partition(" ")[2]
        if words[0] == "house" and len(words) > 1:
            return self.keep_house(rest)
        if words[0] == "grammar" and len(words) > 1:
            return self.keep_grammar(rest)
        if words[0] == "reach" and self.house is not None:
            return said_of_reach(self.house, rest)
        if words[0] in ("down", "least", "above") and self.grammar is not None:
            return said_of_grammar(self.grammar, words)
        return said_of_words(words)
