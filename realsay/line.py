"""The line of one unknown: the numbers at which forms are 0, and fractions below, between and above them."""

from realsay.errors import Beyond, Stranger
from realsay.forms import by_power, names_of, number_of
from realsay.roots import floor_of, floor_of_root, order
from realsay.values import sign_at


def borders(forms, name):
    refuse_strangers(forms, name)
    refuse_high_powers(forms, name)
    found = []
    for F in forms:
        for number in zeros_of(F, name):
            note_number(number, found)
    return tuple(found)


# Where a multiple of 1 / n lies between, one of 1 / 2n does, too. So the least power of 2 that will do for n is found
# by squaring up and halving back: it has no more figures than needed, however often what is told is handed in again.
def between(one, other):
    coarse = 1
    squares = [2]
    if fits_between(one, other, coarse):
        return next_above(one, coarse)
    while not fits_between(one, other, squares[-1]):
        squares.append(squares[-1] * squares[-1])
    for square in reversed(squares):
        if not fits_between(one, other, coarse * square):
            coarse = coarse * square
    return next_above(one, coarse * 2)


def line(forms, name):
    found = borders(forms, name)
    if found == ():
        return ((0, 0, 0, 1),)
    numbers = [(floor_of(found[0]) - 1, 0, 0, 1)]
    for place, number in enumerate(found):
        if place > 0:
            numbers.append(between(found[place - 1], number))
        numbers.append(number)
    numbers.append(next_above(found[-1], 1))
    return tuple(numbers)


def table(forms, name):
    rows = []
    for number in line(forms, name):
        rows.append((number, tuple([sign_at(F, {name: number}) for F in forms])))
    return tuple(rows)


def refuse_strangers(forms, name):
    for F in forms:
        for other in names_of(F):
            if other != name:
                raise Stranger(other)


def refuse_high_powers(forms, name):
    for F in forms:
        if len(by_power(F, name)) > 3:
            raise Beyond(name, F)


# The numbers at which a form in this name alone is 0, where it is not nought; in any order, one perhaps twice.
def zeros_of(F, name):
    numbers = [number_of(part) for part in by_power(F, name)]
    if len(numbers) == 1:
        return []
    if len(numbers) == 2:
        return [with_bottom(-numbers[0], 0, 0, numbers[1])]
    inner = numbers[1] * numbers[1] - 4 * numbers[2] * numbers[0]
    if inner < 0:
        return []
    root = floor_of_root(inner)
    if root * root == inner:
        return [with_bottom(side * root - numbers[1], 0, 0, 2 * numbers[2]) for side in (-1, 1)]
    return [with_bottom(-numbers[1], side, inner, 2 * numbers[2]) for side in (-1, 1)]


def with_bottom(p, q, r, s):
    return (p, q, r, s) if s > 0 else (-p, -q, r, -s)


# The least fraction above the number whose bottom is this count of parts.
def next_above(number, parts):
    return (floor_of((number[0] * parts, number[1] * parts, number[2], number[3])) + 1, 0, 0, parts)


def fits_between(one, other, parts):
    return order(next_above(one, parts), other) < 0


# The place is sought by halves: those that are told may be many.
def note_number(number, found):
    low = 0
    high = len(found)
    while low < high:
        middle = (low + high) // 2
        side = order(found[middle], number)
        if side == 0:
            return
        if side < 0:
            low = middle + 1
        else:
            high = middle
    found.insert(low, number)
