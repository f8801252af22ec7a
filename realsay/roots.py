"""Numbers with a root: (p, q, r, s) is (p + q times the root of r) / s, r from 0 on, s from 1 on.

Roots are never reckoned out where signs are asked: squares are held against one another.
"""


def sign_one(u, v, r):
    return sign_of_sum(sign(u), sign(v * r), sign(u * u - v * v * r))


def sign_two(u, v, r, w, t):
    # (u + v root r)^2 - (w root t)^2 has the one root of r left, so that sign_one tells its sign.
    apart = sign_one(u * u + v * v * r - w * w * t, 2 * u * v, r)
    return sign_of_sum(sign_one(u, v, r), sign(w * t), apart)


def order(one, other):
    # The bottoms are above 0, so that multiplying by both of them keeps the order.
    whole = one[0] * other[3] - other[0] * one[3]
    return sign_two(whole, one[1] * other[3], one[2], -other[1] * one[3], other[2])


def floor_of(N):
    # The bottom is a whole number from 1 on: taking the floor ahead of dividing changes nothing.
    return (N[0] + floor_of_root_part(N[1], N[2])) // N[3]


def sign(number):
    if number > 0:
        return 1
    if number < 0:
        return -1
    return 0


# The sign of a sum of two numbers, by their signs and the sign of the first one's square less the other's.
def sign_of_sum(one, other, apart):
    if one == 0:
        return other
    if other == 0 or one == other:
        return one
    return one * apart


def floor_of_root_part(q, r):
    square = q * q * r
    root = floor_of_root(square)
    if q >= 0:
        return root
    if root * root == square:
        return -root
    return -root - 1


# Newton's steps from above fall until the first guess whose square is not above the number; the first
# guess, at most twice the root or so, keeps their count small for numbers of many figures.
def floor_of_root(number):
    guess = 1
    rest = number
    while rest > 0:
        rest = rest // 4
        guess = guess * 2
    while guess * guess > number:
        guess = (guess + number // guess) // 2
    return guess
