"""Whether a loose sentence holds at a point, and sentences without not that say the same or the opposite."""

from realsay.forms import scaled
from realsay.sentences import both, compare, either, free_in, is_compare, joins, never, sign_fits
from realsay.values import need_names, sign_at

OPPOSITE_WORDS = {"less": "most", "most": "less", "equal": "unlike", "unlike": "equal"}


def holds(S, point):
    # In a loose sentence no name is bound: those that are free are all of them.
    need_names(free_in(S), point)
    return holds_there(S, point)


def plain(S):
    return without_not(S, True)


def opposite(S):
    return without_not(S, False)


def holds_there(S, point):
    if is_compare(S):
        return sign_fits(S[0], sign_at(S[1], point))
    if S[0] == "not":
        return not holds_there(S[1], point)
    if joins(S):
        # One part that holds settles an either, one that fails settles a both.
        settling = S[0] == "either"
        for part in S[1]:
            if holds_there(part, point) == settling:
                return settling
        return not settling
    return S[0] == "yes"


# Holds where the sentence does if straight is True, else where it does not.
def without_not(S, straight):
    if S[0] == "not":
        return without_not(S[1], not straight)
    if joins(S):
        parts = []
        for part in S[1]:
            parts.append(without_not(part, straight))
        return both(parts) if (S[0] == "both") == straight else either(parts)
    if straight:
        return S
    if is_compare(S):
        return opposite_compare(S[0], S[1])
    return never(S)


def opposite_compare(word, F):
    # Not below 0 is: the form times -1 is not above 0.
    turned = F if word in ("equal", "unlike") else scaled(F, -1)
    return compare(OPPOSITE_WORDS[word], turned)
