"""All words some and all taken out, from within to without: sentences freed, their truth, and papers that show it."""

from realsay.errors import NoPaper, Unbound
from realsay.holding import opposite
from realsay.rules import allowed
from realsay.sentences import NO, YES, binds, both, either, free_in, joins
from realsay.settling import settle
from realsay.slimming import slim
from realsay.taking import taken_out


def freed(S):
    allowed(S)
    return released(S, True)


def truth(S):
    refuse_open(S)
    return released(S, True) == YES


def paper(S):
    refuse_open(S)
    if not binds(S):
        raise NoPaper("the sentence begins with no some and no all")
    L = released(S[2], S[0] == "some")
    return (L, settle(L, S[1]))


def refuse_open(S):
    allowed(S)
    free = free_in(S)
    if free != ():
        raise Unbound(free[0])


# Plain, and holds where the sentence does if straight is True, else where it does not.
def released(S, straight):
    if S[0] == "not":
        return released(S[1], not straight)
    if joins(S):
        return released_parts(S, straight)
    if binds(S):
        return released_words(S, straight)
    return S if straight else opposite(S)


def released_parts(S, straight):
    is_either = (S[0] == "either") == straight
    ruling = YES if is_either else NO
    parts = []
    for part in S[1]:
        parts.append(released(part, straight))
        if parts[-1] == ruling:
            return ruling
    return either(parts) if is_either else both(parts)


# Equal words straight within one another are taken out together, so that it need not be done in their order.
def released_words(S, straight):
    word = S[0]
    names = []
    inner = S
    while inner[0] == word:
        names.append(inner[1])
        inner = inner[2]
    if (word == "some") == straight:
        return taken_out(slim(released(inner, straight)), names)
    # All is not some not.
    return opposite(taken_out(slim(released(inner, not straight)), names))
