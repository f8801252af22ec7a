"""Places at which it is enough to look, whether some number for a name makes a plain sentence hold.

A place is told as a tuple, for which point_at makes the test point: ("far",); ("border", P, q, R, S) and
("past", P, q, R, S), the four as in a test point; ("upright", P, S) and ("past upright", P, S), where q is 0 and S is
above 0. All compares of the sentences here let the name in.
"""

from realsay.forms import by_power, is_number, number_of, plus, power_in, scaled, times
from realsay.points import Border, Far, Past, PastUpright, Upright
from realsay.sentences import built_anew, compares_of, is_compare, parts_within


def point_at(place):
    kind = place[0]
    if kind == "far":
        return Far()
    if kind == "border":
        return Border(place[1], place[2], place[3], place[4])
    if kind == "past":
        return Past(place[1], place[2], place[3], place[4])
    if kind == "upright":
        return Upright(place[1], place[2])
    return PastUpright(place[1], place[2])


# Where the sentence holds, it does so from far below on, or from a place on at which some compare begins to hold.
def places_of(S, name):
    sure = sure_places(S, name)
    if sure is not None:
        return list(sure)
    found = {("far",): True}
    for part in compares_of(S):
        note_places(beginnings(part[0], part[1], name), found)
    return list(found)


# Where a compare says that a form is 0, and a number stands before the highest power of the name, it holds at borders
# of this form alone. So a both can hold only at those of any part that has such, and an either only at those of all its
# parts, where each has such. Told is a dict of them, or None.
def sure_places(S, name):
    told = None
    if S[0] == "equal" and leads_with_number(S[1], name):
        told = {}
        note_places(beginnings(S[0], S[1], name), told)
    if S[0] == "both":
        for part in S[1]:
            found = sure_places(part, name)
            if told is None or (found is not None and len(found) < len(told)):
                told = found
    if S[0] == "either":
        told = {}
        for part in S[1]:
            found = sure_places(part, name)
            if found is None:
                return None
            note_places(list(found), told)
    return told


def note_places(places, found):
    for place in places:
        found[place] = True


def leads_with_number(F, name):
    parts = by_power(F, name)
    return len(parts) > 1 and is_number(parts[-1])


# The places from which on a compare holds that did not hold straight before; for a border of equal, itself.
def beginnings(word, F, name):
    parts = by_power(F, name)
    if len(parts) == 1:
        return []
    if len(parts) == 2:
        return straight_beginnings(word, parts)
    return bent_beginnings(word, parts)


# Less and most begin to hold where the form falls, that is where the number before the name is below 0.
def straight_beginnings(word, parts):
    kind = "upright" if word in ("most", "equal") else "past upright"
    falling = (kind, parts[0], scaled(parts[1], -1))
    rising = (kind, scaled(parts[0], -1), parts[1])
    places = [falling] if word in ("less", "most") else [falling, rising]
    return [place for place in places if may_be_above(place[2])]


def may_be_above(F):
    return not is_number(F) or number_of(F) > 0


# Less and most begin to hold at the lesser border where the number before the second power is above 0, and at the
# greater one where it is below 0: as this number is the bottom, both are the one from which the root is taken away.
def bent_beginnings(word, parts):
    kind = "border" if word in ("most", "equal") else "past"
    top = scaled(parts[1], -1)
    inner = plus(times(parts[1], parts[1]), scaled(times(parts[2], parts[0]), -4))
    sides = (-1,) if word in ("less", "most") else (-1, 1)
    return [(kind, top, side, inner, scaled(parts[2], 2)) for side in sides]


# The sentence with the name turned about: some number for it makes this one hold just where some makes the other.
def mirrored(S, name):
    if is_compare(S):
        pairs = []
        for product, number in S[1]:
            pairs.append((product, -number if power_in(product, name) == 1 else number))
        return (S[0], tuple(pairs))
    parts = []
    for part in parts_within(S):
        parts.append(mirrored(part, name))
    return built_anew(S, parts)
