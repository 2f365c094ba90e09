"""Words that are alike led to one another, letter by letter."""

from lostpost.questions import alike


def first_unlike(one, other):
    place = 0
    while place < min(len(one), len(other)) and one[place] == other[place]:
        place += 1
    return place


def put_in(word, place, letter):
    return word[:place] + letter + word[place:]


# Both words grow until they are the same. At the first place where they are unlike,
# one of them may take in the other one's letter and stay alike by n: a word that ends
# there lies under the other one, and all between the two is alike; of two that go on,
# where the first can't take in the letter of the second, the second can that of the first.
def led_to(one, other, n):
    if not alike(one, other, n):
        return None
    ups = [one]
    downs = [other]
    while ups[-1] != downs[-1]:
        place = first_unlike(ups[-1], downs[-1])
        longer = put_in(ups[-1], place, downs[-1][place:place + 1])
        if longer != ups[-1] and alike(longer, one, n):
            ups.append(longer)
        else:
            downs.append(put_in(downs[-1], place, ups[-1][place]))
    return ups + list(reversed(downs[:-1]))
