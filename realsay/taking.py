"""Unknowns taken out: a plain sentence without a name, that holds where some number for the name makes it hold."""

from realsay.errors import Beyond
from realsay.forms import by_power, is_number
from realsay.places import mirrored, places_of, point_at
from realsay.sentences import NO, YES, both, built_anew, compares_of, either, free_in, is_compare, parts_within
from realsay.settling import settle
from realsay.slimming import slim


def points_of(S, name):
    refuse_beyond(S, name)
    return [point_at(place) for place in places_of(S, name)]


def put_to(S, point, name):
    return put_parts(S, point, name, {})


def without(S, name):
    refuse_beyond(S, name)
    return taken_out(S, (name,))


def refuse_beyond(S, name):
    for part in compares_of(S):
        parts = by_power(part[1], name)
        if len(parts) > 3 or (len(parts) == 3 and not is_number(parts[2])):
            raise Beyond(name, part[1])


# What each compare is at the point is kept, since many a compare comes more than once.
def put_parts(S, point, name, kept):
    if is_compare(S):
        if S not in kept:
            kept[S] = point.into(S[0], S[1], name)
        return kept[S]
    parts = []
    for part in parts_within(S):
        parts.append(put_parts(part, point, name, kept))
    return built_anew(S, parts)


# The plain sentence without all these names, in whatever order they are taken out: it holds where some numbers for them
# make it hold. An either is taken apart, as is a both whose parts share none of the names: so fewer compares meet.
def taken_out(S, names):
    free = free_in(S)
    left = [name for name in names if name in free]
    if left == []:
        return S
    if S[0] == "either":
        return apart_taken_out(S, S[1], left)
    groups = groups_of(S, left)
    if len(groups) > 1:
        return apart_taken_out(S, groups, left)
    if len(free) == 1:
        return YES if settle(S, free[0])[0] == "yes" else NO
    return first_taken_out(S, left)


# Once a part is told that rules the whole, the others are not looked at.
def apart_taken_out(S, parts, names):
    ruling = YES if S[0] == "either" else NO
    told = []
    for part in parts:
        told.append(taken_out(part, names))
        if told[-1] == ruling:
            return ruling
    return slim(built_anew(S, told))


def groups_of(S, names):
    groups = []
    for part in parts_joined(S):
        own = [name for name in free_in(part) if name in names]
        members = []
        apart = []
        for group in groups:
            if shares(own, group[0]):
                own = own + group[0]
                members = members + group[1]
            else:
                apart.append(group)
        groups = apart + [(own, members + [part])]
    return [both(group[1]) for group in groups]


def shares(one, other):
    return [name for name in one if name in other] != []


def first_taken_out(S, names):
    rows = [(part, free_in(part)) for part in parts_joined(S)]
    chosen = cheapest(rows, names)
    name = chosen[0]
    others = [part for part, own in rows if name not in own]
    rest = [other for other in names if other != name]
    told = {}
    for place in places_of(chosen[1], name):
        point = point_at(place)
        part = slim(both([point.guard(), put_to(chosen[1], point, name)] + others))
        if part not in told:
            told[part] = taken_out(part, rest)
            if told[part] == YES:
                return YES
    return slim(either(list(told.values())))


def parts_joined(S):
    return S[1] if S[0] == "both" else (S,)


# A pair of the name that is best taken out first and the both of the parts that have it, perhaps mirrored. The rows are
# pairs of a part and its names. Names in the first power go ahead: so no root comes in as long as others are left.
def cheapest(rows, names):
    best = None
    chosen = None
    for name in names:
        touched = both([part for part, own in rows if name in own])
        highest = max([len(by_power(part[1], name)) for part in compares_of(touched)])
        for side in (touched, mirrored(touched, name)):
            cost = (highest, len(places_of(side, name)))
            if best is None or cost < best:
                best = cost
                chosen = (name, side)
    return chosen
