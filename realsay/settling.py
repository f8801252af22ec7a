"""A plain sentence in one unknown settled: a number at which it holds, or a line at none of whose numbers it does."""

from realsay.holding import holds
from realsay.line import line
from realsay.sentences import compares_of


def settle(S, name):
    numbers = line([part[1] for part in compares_of(S)], name)
    for number in numbers:
        if holds(S, {name: number}):
            return ("yes", number)
    return ("no", numbers)
