"""Sentences: tuples that begin with a word, each in one form, and what is told of their parts.

What walks a sentence takes one call for each sentence within another, so that two hundred of them are not too deep.
"""

from realsay.forms import is_number, lean, names_of, number_of, put_in

YES = ("yes",)
NO = ("no",)
SIGNS_OF = {"less": (-1,), "most": (-1, 0), "equal": (0,), "unlike": (-1, 1)}


def compare(word, F):
    thin = lean(F)
    if not is_number(thin):
        return (word, thin)
    # A lean form without unknowns is nought or has the one number 1 or -1, which is its own sign.
    return YES if sign_fits(word, number_of(thin)) else NO


def both(parts):
    return joined_parts("both", parts, YES, NO)


def either(parts):
    return joined_parts("either", parts, NO, YES)


def never(S):
    if S == YES:
        return NO
    if S == NO:
        return YES
    return ("not", S)


def some_of(name, S):
    return with_word("some", name, S)


def all_of(name, S):
    return with_word("all", name, S)


def compares_of(S):
    found = []
    note_compares(S, found)
    return tuple(found)


def free_in(S):
    found = {}
    note_free(S, (), found)
    return tuple(sorted(found))


def put(S, name, top, bottom):
    if is_compare(S):
        return compare(S[0], put_in(S[1], name, top, bottom))
    if binds(S) and S[1] == name:
        return S
    parts = []
    for part in parts_within(S):
        parts.append(put(part, name, top, bottom))
    return built_anew(S, parts)


def sign_fits(word, sign):
    return sign in SIGNS_OF[word]


def is_compare(S):
    return S[0] in SIGNS_OF


def binds(S):
    return S[0] in ("some", "all")


def joins(S):
    return S[0] in ("both", "either")


def parts_within(S):
    if joins(S):
        return S[1]
    if S[0] == "not":
        return (S[1],)
    if binds(S):
        return (S[2],)
    return ()


def built_anew(S, parts):
    word = S[0]
    if word == "both":
        return both(parts)
    if word == "either":
        return either(parts)
    if word == "not":
        return never(parts[0])
    if binds(S):
        return with_word(word, S[1], parts[0])
    return S


# An idle part changes nothing, a ruling one settles the whole.
def joined_parts(word, parts, idle, ruling):
    kept = {}
    for part in parts:
        if part == ruling:
            return ruling
        if part != idle:
            kept[part] = True
    if len(kept) == 0:
        return idle
    if len(kept) == 1:
        return list(kept)[0]
    return (word, tuple(kept))


def with_word(word, name, S):
    if S == YES or S == NO:
        return S
    return (word, name, S)


def note_compares(S, found):
    if is_compare(S):
        found.append(S)
    for part in parts_within(S):
        note_compares(part, found)


def note_free(S, bound, found):
    inner = S
    within = bound
    # Words straight within one another may be very many: they are passed without a call for each.
    while binds(inner):
        within = within + (inner[1],)
        inner = inner[2]
    if is_compare(inner):
        for name in names_of(inner[1]):
            if name not in within:
                found[name] = True
    for part in parts_within(inner):
        note_free(part, within, found)
