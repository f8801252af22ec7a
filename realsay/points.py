"""Test points: places on the line of one name that move with the other unknowns, and compares put to them.

A form a x^2 + b x + c, x being the name, is handed on as its three parts (c, b, a), all without the name.
What it is at a place is told as a triple (U, V, W): its sign is that of U + V root R, and W is U^2 - V^2 R; where V is
nought, it is that of U, and W is not looked at.
"""

from realsay.errors import Beyond
from realsay.forms import by_power, plus, scaled, times
from realsay.holding import opposite
from realsay.sentences import NO, YES, both, compare, either


# Only the classes under this one are made. Each has its own placed, which is asked where the name stands in the form.
class Point:
    def guard(self):
        return YES

    def into(self, word, F, name):
        parts = by_power(F, name)
        if len(parts) > 3:
            raise Beyond(name, F)
        if len(parts) == 1:
            return compare(word, F)
        return self.placed(word, parts if len(parts) == 3 else parts + ((),))


class Far(Point):
    def placed(self, word, parts):
        if word in ("equal", "unlike"):
            return on_a_stretch(word, parts)
        # The highest power rules there; below 0 an odd one turns the sign.
        return by_first(word, [rootless(parts[2]), rootless(scaled(parts[1], -1)), rootless(parts[0])])


class Border(Point):
    def __init__(self, P, q, R, S):
        self.P = P
        self.q = q
        self.R = R
        self.S = S

    def guard(self):
        there = compare("unlike", self.S)
        if self.q == 0:
            return there
        return both([there, compare("most", scaled(self.R, -1))])

    def placed(self, word, parts):
        return says(word, self.reckoned(parts))

    # S^2 times the form is told; where the form is without the name, it is told itself.
    def reckoned(self, parts):
        if parts[2] == ():
            return self.reckoned_straight(parts)
        square = times(self.P, self.P)
        if self.q != 0:
            square = plus(square, self.R)
        bent = times(parts[2], square)
        straight = times(parts[1], times(self.S, self.P))
        U = plus(plus(bent, straight), times(parts[0], times(self.S, self.S)))
        V = scaled(plus(scaled(times(parts[2], self.P), 2), times(parts[1], self.S)), self.q)
        return self.with_root(U, V)

    def reckoned_straight(self, parts):
        if parts[1] == ():
            return rootless(parts[0])
        U = plus(times(parts[1], self.P), times(parts[0], self.S))
        return self.with_root(self.lifted(U), self.lifted(scaled(parts[1], self.q)))

    # A form of the first power is told times S; times S once more its sign is the same.
    def lifted(self, F):
        return times(F, self.S)

    def with_root(self, U, V):
        if V == ():
            return rootless(U)
        return (U, V, plus(times(U, U), scaled(times(times(V, V), self.R), -1)))


# The border P / S where S is above 0: so the sign of a form of the first power is told without S^2, which keeps forms
# much smaller where unknowns are taken out one behind the other.
class Upright(Border):
    def __init__(self, P, S):
        Border.__init__(self, P, 0, (), S)

    def guard(self):
        return above("less", self.S)

    def lifted(self, F):
        return F


class Past(Point):
    def __init__(self, P, q, R, S):
        self.border = Border(P, q, R, S)

    def guard(self):
        return self.border.guard()

    def placed(self, word, parts):
        if word in ("equal", "unlike"):
            return on_a_stretch(word, parts)
        slope = (parts[1], scaled(parts[2], 2), ())
        return by_first(word, [self.border.reckoned(parts), self.border.reckoned(slope), rootless(parts[2])])


class PastUpright(Past):
    def __init__(self, P, S):
        self.border = Upright(P, S)


def rootless(F):
    return (F, (), ())


# On a stretch of the line a form is 0 only where all its parts are.
def on_a_stretch(word, parts):
    compares = [compare(word, part) for part in parts]
    return both(compares) if word == "equal" else either(compares)


# The sign of the first that is not 0 is held against 0, for less and most; that of the last where all others are 0.
def by_first(word, rows):
    told = says(word, rows[-1])
    for row in reversed(rows[:-1]):
        if told == YES:
            told = says("most", row)
        elif told == NO:
            told = says("less", row)
        else:
            told = either([says("less", row), both([says("equal", row), told])])
    return told


def says(word, row):
    U = row[0]
    V = row[1]
    W = row[2]
    if V == ():
        return compare(word, U)
    if word == "less":
        outweighed = both([compare("less", U), above("less", W)])
        return either([outweighed, both([compare("less", V), either([compare("less", U), compare("less", W)])])])
    if word == "most":
        outweighed = both([compare("most", U), above("most", W)])
        return either([outweighed, both([compare("most", V), compare("most", W)])])
    level = both([compare("most", times(U, V)), compare("equal", W)])
    return level if word == "equal" else opposite(level)


# The compare turned about: above 0, or not below 0.
def above(word, F):
    return compare(word, scaled(F, -1))
