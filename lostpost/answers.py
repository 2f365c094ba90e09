"""What is told of a begin and an asked standing: a run, or why none ever comes."""

from lostpost.back import least_standings, search
from lostpost.houses import is_above
from lostpost.runs import behind


# Above a standing at which a rule can be done only letters at a line's begin can
# hinder it.
def losses_for(standing, deed):
    if deed[0] == "take":
        return [("lose", deed[1], 0)] * standing[2][deed[1]].find(deed[2])
    if deed[0] == "empty":
        return [("lose", deed[1], 0)] * len(standing[2][deed[1]])
    return []


def run_from(house, begin, rows, row):
    run = []
    here = begin
    while row[1] > 0:
        deed = house[3][row[2]][1][row[3]][1]
        steps = losses_for(here, deed) + [("do", row[2], row[3])]
        for step in steps:
            here = behind(house, here, step)
        run.extend(steps)
        row = rows[row[4]]
    return tuple(run)


def answered(house, begin, asked, most=200):
    rows = search(house, asked, most)
    # The rows' ranks rise, so the first one under the begin has the fewest deeds.
    for row in rows:
        if is_above(begin, row[0]):
            return ("run", run_from(house, begin, rows, row))
    return ("never", least_standings(rows))
