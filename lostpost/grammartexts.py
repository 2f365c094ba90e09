"""The texts of grammars."""

from lostpost.errors import NoText
from lostpost.housetexts import is_number, shape_of, show_row, value_of


def show_grammar(grammar):
    rows = [("names", grammar[0])]
    for name, body in grammar[1]:
        rows.append((name, "=") + (body if body else (".",)))
    return "\n".join([show_row(row) for row in rows])


def is_head(words):
    return len(words) == 2 and words[0] == "names" and is_number(words[1])


def is_row_of_rule(words):
    if len(words) < 3 or not is_number(words[0]) or words[1] != "=":
        return False
    return words[2:] == ["."] or all([shape_of(word) != "?" for word in words[2:]])


def rule_of(words):
    body = [] if words[2:] == ["."] else words[2:]
    return (int(words[0]), tuple([value_of(word) for word in body]))


def read_grammar(text):
    rows = [row.split(" ") for row in text.split("\n")]
    if not is_head(rows[0]):
        raise NoText(0)
    for at in range(1, len(rows)):
        if not is_row_of_rule(rows[at]):
            raise NoText(at)
    return (int(rows[0][1]), tuple([rule_of(words) for words in rows[1:]]))
