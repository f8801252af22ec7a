"""Plain sentences made slim: what the compares beside a part, or around it, settle of it is left out.

A compare is seen as (stem, number, factor, signs): factor times the stem, plus the number, has one of these signs. The
stem is a lean form without the product (), its first number above 0; the factor is above 0. Signs are told by a sum of
1 (below 0), 2 (nought) and 4 (above 0). What is known is a dict from stems to tuples of rows (number, factor, signs).
"""

from realsay.forms import lean, scaled
from realsay.sentences import NO, YES, built_anew, is_compare, joins

BELOW = 1
ABOVE = 4
ANY = 7
SIGNS = {"less": 1, "equal": 2, "most": 3, "unlike": 5}
TURNED = {1: 4, 2: 2, 3: 6, 5: 5}
# Behind the signs stand the word that says them, and 1, or -1 where it says them of the form times -1.
SAYING = {1: ("less", 1), 2: ("equal", 1), 3: ("most", 1), 4: ("less", -1), 5: ("unlike", 1), 6: ("most", -1)}


def slim(S):
    return slimmed(S, {}) if joins(S) else S


# The sentence is a both or an either. A part of a both matters only where the others hold, one of an either only where
# the others fail: so much is known of it.
def slimmed(S, known):
    word = S[0]
    ruling = NO if word == "both" else YES
    parts = drawn_up(word, S[1])
    while True:
        here = dict(known)
        noted = noted_compares(word, parts, here)
        if noted is None:
            return ruling
        told = needed_compares(word, noted, here)
        changed = False
        for part in parts:
            if joins(part):
                inner = slimmed(part, here)
                if inner == ruling:
                    return ruling
                told.append(inner)
                changed = changed or is_compare(inner) or inner[0] == word
        if not changed:
            return built_anew(S, told)
        # A part that has become a compare may settle something of the others.
        parts = drawn_up(word, told)


# Parts that the same word joins give their own parts in their place.
def drawn_up(word, parts):
    told = []
    waiting = list(reversed(parts))
    while waiting != []:
        part = waiting.pop()
        if part[0] == word:
            waiting.extend(list(reversed(part[1])))
        else:
            told.append(part)
    return told


# What the compares among the parts say is put to what is known, in an either that they fail. Told is a dict of those
# that say something new, from (stem, number, factor) to signs; None where not all of them can be so.
def noted_compares(word, parts, known):
    noted = {}
    for part in parts:
        if is_compare(part):
            row = row_of(part)
            place = row[:3]
            old = signs_known(known, place)
            signs = old & (row[3] if word == "both" else ANY - row[3])
            if signs == 0:
                return None
            if signs != old:
                known[place[0]] = rows_but(known, place) + ((place[1], place[2], signs),)
                noted[place] = signs
    return noted


# Those that the others do not settle; the others are left out of what is known, too.
def needed_compares(word, noted, known):
    told = []
    for place, signs in noted.items():
        others = {place[0]: rows_but(known, place)}
        old = signs_known(others, place)
        if signs & old == old:
            known[place[0]] = others[place[0]]
        else:
            told.append(compare_of(place, signs if word == "both" else ANY - signs))
    return told


def row_of(S):
    F = S[1]
    number = 0
    if F[0][0] == ():
        number = F[0][1]
        F = F[1:]
    stem = lean(F)
    factor = F[0][1] // stem[0][1]
    signs = SIGNS[S[0]]
    if stem[0][1] > 0:
        return (stem, number, factor, signs)
    return (scaled(stem, -1), -number, factor, TURNED[signs])


def compare_of(place, signs):
    F = scaled(place[0], place[2])
    if place[1] != 0:
        F = (((), place[1]),) + F
    said = SAYING[signs]
    return (said[0], scaled(F, said[1]))


def rows_but(known, place):
    return tuple([row for row in known.get(place[0], ()) if row[:2] != place[1:]])


def signs_known(known, place):
    signs = ANY
    for row in known.get(place[0], ()):
        signs = signs & signs_by(row, place[1], place[2])
    return signs


# What a row says of the signs of factor times its stem, plus number: it may say nothing.
def signs_by(row, number, factor):
    apart = number * row[1] - row[0] * factor
    if apart == 0:
        return row[2]
    if apart < 0 and row[2] & ABOVE == 0:
        return BELOW
    if apart > 0 and row[2] & BELOW == 0:
        return ABOVE
    return ANY
