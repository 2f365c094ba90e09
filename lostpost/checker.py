"""Papers looked at by themselves, whoever wrote them."""

from lostpost.back import ahead_of
from lostpost.errors import NoPaper, NoStep
from lostpost.houses import is_above, is_standing
from lostpost.runs import walked


def run_holds(house, begin, asked, run):
    try:
        standings = walked(house, begin, run)
    except NoStep as error:
        raise NoPaper(error.at) from error
    last = standings[-1] if standings else begin
    if not is_above(last, asked):
        raise NoPaper(len(run))
    return True


# Papers may be long, so their standings are kept letter by letter: what several of
# them begin with is looked at once. A bar parts the words of lines; one row of words
# lies above another just where it does so with the bars.
def kept_by_letters(standings):
    kept = {}
    for standing in standings:
        here = kept.setdefault(standing[:2], {})
        for sign in "/".join(standing[2]):
            here = here.setdefault(sign, {})
        here["end"] = {}
    return kept


def lies_above_one(standing, kept):
    row = "/".join(standing[2])
    waiting = [(kept.get(standing[:2], {}), 0)]
    while waiting:
        here = waiting.pop()
        if "end" in here[0]:
            return True
        for sign, further in here[0].items():
            place = row.find(sign, here[1])
            if place >= 0:
                waiting.append((further, place + 1))
    return False


def is_closed(house, standing, kept):
    return all([lies_above_one(ahead, kept) for ahead in ahead_of(house, standing)])


def never_holds(house, begin, asked, paper):
    kept = kept_by_letters([standing for standing in paper if is_standing(house, standing)])
    for at, standing in enumerate(paper):
        if not is_standing(house, standing) or not is_closed(house, standing, kept):
            raise NoPaper(at)
    if not lies_above_one(asked, kept) or lies_above_one(begin, kept):
        raise NoPaper(len(paper))
    return True
