"""Machines told as grammars."""


# A grammar's words are those of name 0, so the begin and room 0 change places.
def name_of(machine, room):
    begin = machine[1]
    if room == begin:
        return 0
    return begin if room == 0 else room


def grammar_of(machine):
    rules = []
    for p, letter, q in machine[3]:
        rules.append((name_of(machine, p), (letter, name_of(machine, q))))
    for room in machine[2]:
        rules.append((name_of(machine, room), ()))
    return (machine[0], tuple(rules))
