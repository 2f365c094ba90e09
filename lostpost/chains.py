"""What hangs on what comes behind it."""


# The letters that change what may follow, each with what may follow it; the other
# ones may stand here as often as one likes.
def changing_moves(letters, state, behind):
    moves = {}
    for letter in letters:
        further = behind(state, letter)
        if further != state:
            moves[letter] = further
    return moves


# Tells of the start what told_of(state, moves, told) makes of it, where told has
# the same for each of the states in moves, a dict whose values are states. Moves
# never lead back. A list of the states that wait stands in the place of calls
# within calls, so that long chains do no harm.
def told_from_last(start, moves_of, told_of):
    moves = {}
    told = {}
    waiting = [start]
    while waiting:
        state = waiting[-1]
        if state not in moves:
            moves[state] = moves_of(state)
        lacking = [further for further in moves[state].values() if further not in told]
        if lacking:
            waiting.append(lacking[0])
        else:
            told[state] = told_of(state, moves[state], told)
            waiting.pop()
    return told[start]
