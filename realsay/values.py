"""The sign of a form at a point, a dict from names to numbers (p, q, r, s) that share one root.

A value is a pair (u, v) of whole numbers, that is u + v times this root.
"""

from realsay.errors import Lacks
from realsay.forms import names_of
from realsay.roots import sign_one


def sign_at(F, point):
    names = names_of(F)
    need_names(names, point)
    root = root_among(names, point)
    values = {}
    for product, number in F:
        values[product] = (number, 0)
    for name in names:
        values = put_number(values, name, point[name], root)
    value = values.get((), (0, 0))
    return sign_one(value[0], value[1], root)


# The names are handed in rising, so that the first one that lacks is the least one.
def need_names(names, point):
    for name in names:
        if name not in point:
            raise Lacks(name)


# Where q is 0, r says nothing: it may be another one than that of the other numbers.
def root_among(names, point):
    for name in names:
        if point[name][1] != 0:
            return point[name][2]
    return 0


# All values are multiplied by one power of the number's bottom: it is above 0, so the sign of their sum stays.
def put_number(values, name, number, root):
    highest = max([leading_power(product, name) for product in values])
    factors = {}
    told = {}
    for product, value in values.items():
        power = leading_power(product, name)
        if power not in factors:
            factors[power] = factor_of(number, power, highest, root)
        rest = product[1:] if power > 0 else product
        told[rest] = added(told.get(rest, (0, 0)), multiplied(value, factors[power], root))
    return told


# Names are put in rising, those before are gone: a product that has the name begins with it.
def leading_power(product, name):
    if product != () and product[0][0] == name:
        return product[0][1]
    return 0


def factor_of(number, power, highest, root):
    top = raised((number[0], number[1]), power, root)
    bottom = raised((number[3], 0), highest - power, root)
    return multiplied(top, bottom, root)


def added(one, other):
    return (one[0] + other[0], one[1] + other[1])


def multiplied(one, other, root):
    return (one[0] * other[0] + one[1] * other[1] * root, one[0] * other[1] + one[1] * other[0])


# By squares, so that the count of steps grows with the figures of the power alone.
def raised(value, power, root):
    square = value
    told = (1, 0)
    rest = power
    while rest > 0:
        if rest % 2 == 1:
            told = multiplied(told, square, root)
        rest = rest // 2
        if rest > 0:
            square = multiplied(square, square, root)
    return told
