"""Unknowns taken out: a plain sentence without a name, that holds where some number for the name makes it hold."""

from realsay.errors import Beyond
from realsay.forms import by_power, is_number
from realsay.places import mirrored, places_of, point_at
from realsay.sentences import NO, YES, both, built_anew, compares_of, either, free_in, is_compare, parts_within
from realsay.settling import settle
from realsay.slimming import slim

# More sentences that have been looked at are not kept, so that they need not much room.
MOST_SEEN = 10000
# That of a name in the first power that has one place.
LEAST_COST = (2, 1)


def points_of(S, name):
    refuse_beyond(S, name)
    return [point_at(place) for place in places_of(S, name)]


def put_to(S, point, name):
    return put_parts(S, point, name, {})


def without(S, name):
    refuse_beyond(S, name)
    return taken_out(S, (name,))


def refuse_beyond(S, name):
    for part in compares_of(S):
        parts = by_power(part[1], name)
        if len(parts) > 3 or (len(parts) == 3 and not is_number(parts[2])):
            raise Beyond(name, part[1])


# What each compare is at the point is kept, since many a compare comes more than once.
def put_parts(S, point, name, kept):
    if is_compare(S):
        if S not in kept:
            kept[S] = point.into(S[0], S[1], name)
        return kept[S]
    parts = []
    for part in parts_within(S):
        parts.append(put_parts(part, point, name, kept))
    return built_anew(S, parts)


# The plain sentence without all these names, in whatever order they are taken out: it holds where some numbers for them
# make it hold. An either is taken apart, as is a both whose parts share none of the names: so fewer compares meet.
def taken_out(S, names):
    free = free_in(S)
    left = [name for name in free if name in names]
    if left == []:
        return S
    if len(left) == len(free):
        return YES if can_hold(S) else NO
    if S[0] == "either":
        return apart_taken_out(S, S[1], left)
    groups = groups_of(S, left)
    if len(groups) > 1:
        return apart_taken_out(S, groups, left)
    return first_taken_out(S, left)


# Once a part is told that rules the whole, the others are not looked at.
def apart_taken_out(S, parts, names):
    ruling = YES if S[0] == "either" else NO
    told = []
    for part in parts:
        told.append(taken_out(part, names))
        if told[-1] == ruling:
            return ruling
    return slim(built_anew(S, told))


def first_taken_out(S, names):
    told = {}
    for row in rows_at_places(S, names):
        part = part_of(row)
        if part not in told:
            told[part] = taken_out(part, names)
            if told[part] == YES:
                return YES
    return slim(either(list(told.values())))


# Whether some numbers for all names make the plain sentence hold. What is still to be looked at waits in a list, not in
# calls within one another, for a sheet may have very many names.
def can_hold(S):
    waiting = [(S, None)]
    seen = {}
    while waiting != []:
        part = part_of(waiting.pop())
        if part == YES:
            return True
        if len(seen) > MOST_SEEN:
            seen.clear()
        if part != NO and part not in seen:
            seen[part] = True
            waiting.extend(list(reversed(rows_within(part))))
    return False


# The rows of which one must be able to hold.
def rows_within(S):
    if S[0] == "either":
        return [(part, None) for part in S[1]]
    free = free_in(S)
    groups = sorted(groups_of(S, free), key=size_of)
    for group in groups[:-1]:
        if not can_hold(group):
            return []
    if len(groups) > 1:
        return [(groups[-1], None)]
    if len(free) == 1:
        return [(YES, None)] if settle(S, free[0])[0] == "yes" else []
    return rows_at_places(S, free)


def size_of(S):
    return len(free_in(S))


# A row is a pair of a sentence and a step (name, place, others): it stands for the sentence put to the place, with the
# place's guard and the others; or of a sentence and None, for the sentence itself.
def part_of(row):
    step = row[1]
    if step is None:
        return row[0]
    point = point_at(step[1])
    return slim(both([point.guard(), put_to(row[0], point, step[0])] + step[2]))


def rows_at_places(S, names):
    owners = [(part, free_in(part)) for part in parts_joined(S)]
    chosen = cheapest(owners, names)
    name = chosen[0]
    others = [part for part, own in owners if name not in own]
    return [(chosen[1], (name, place, others)) for place in places_of(chosen[1], name)]


# A pair of the name that is best taken out first and the both of the parts that have it, perhaps mirrored. Owners are
# pairs of a part and its names. Names in the first power go ahead: so no root comes in as long as others are left.
def cheapest(owners, names):
    touched = {}
    for part, own in owners:
        for name in own:
            touched.setdefault(name, []).append(part)
    best = None
    chosen = None
    for name in names:
        straight = both(touched[name])
        highest = max([len(by_power(part[1], name)) for part in compares_of(straight)])
        for side in (straight, mirrored(straight, name)):
            cost = (highest, len(places_of(side, name)))
            if best is None or cost < best:
                best = cost
                chosen = (name, side)
        if best <= LEAST_COST:
            return chosen
    return chosen


# Those parts of a both stand in one group that names join, straight or by others between them. Each name leads to
# another one of its group, and the last one to itself: by this one the group is known.
def groups_of(S, names):
    leads = dict(zip(names, names))
    owners = []
    for part in parts_joined(S):
        own = [name for name in free_in(part) if name in leads]
        owners.append((part, own))
        for name in own:
            leads[last_of(name, leads)] = last_of(own[0], leads)
    groups = {}
    for part, own in owners:
        # A part without names is a group by itself.
        known_by = last_of(own[0], leads) if own != [] else part
        groups.setdefault(known_by, []).append(part)
    return [both(group) for group in groups.values()]


def last_of(name, leads):
    last = name
    while leads[last] != last:
        last = leads[last]
    return last


def parts_joined(S):
    return S[1] if S[0] == "both" else (S,)
