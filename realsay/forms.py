"""Forms: sums of whole numbers times products of unknowns, each sum in one way only.

A product is a tuple of pairs (name, power), names rising; () is 1.
A form is a tuple of pairs (product, number), products rising, no number 0; () is nought.
"""


def form_of(pairs):
    numbers = {}
    for product, number in pairs:
        numbers[product] = numbers.get(product, 0) + number
    return tuple([(product, number) for product, number in sorted(numbers.items()) if number != 0])


def plus(F, G):
    return form_of(F + G)


def times(F, G):
    # Forms that are told at places have many a number among their factors: nothing has to be coded for these.
    if is_number(F):
        return scaled(G, number_of(F))
    if is_number(G):
        return scaled(F, number_of(G))
    names = names_of(F + G)
    base = highest_power(F) + highest_power(G) + 1
    right = coded(G, names, base)
    numbers = {}
    for code, number in coded(F, names, base):
        for other, factor in right:
            numbers[code + other] = numbers.get(code + other, 0) + number * factor
    return form_of([(product_from(code, names, base), number) for code, number in numbers.items()])


def scaled(F, number):
    if number == 0:
        return ()
    return tuple([(product, old * number) for product, old in F])


def names_of(F):
    found = {}
    for product, number in F:
        for name, power in product:
            found[name] = True
    return tuple(sorted(found))


def by_power(F, name):
    rows = [[]]
    for product, number in F:
        power = power_in(product, name)
        while len(rows) <= power:
            rows.append([])
        rows[power].append((product_without(product, name), number))
    # Without the name the products may stand in another order: a*x is before x, but a is behind 1.
    return tuple([form_of(row) for row in rows])


def lean(F):
    divisor = 0
    for product, number in F:
        divisor = common_divisor(divisor, abs(number))
        if divisor == 1:
            return F
    return tuple([(product, number // divisor) for product, number in F])


def put_in(F, name, top, bottom):
    parts = by_power(F, name)
    highest = len(parts) - 1
    tops = powers_up_to(top, highest)
    bottoms = powers_up_to(bottom, highest)
    pairs = []
    for power, part in enumerate(parts):
        pairs.extend(scaled(part, tops[power] * bottoms[highest - power]))
    return form_of(pairs)


def is_number(F):
    return F == () or (len(F) == 1 and F[0][0] == ())


def number_of(F):
    return F[0][1] if F != () else 0


# A product's code is a whole number whose figures to the base are its powers; so two products are multiplied by adding
# their codes, which is much faster where forms have many. The base is above all powers that come.
def coded(F, names, base):
    weights = dict(zip(names, powers_up_to(base, len(names))))
    rows = []
    for product, number in F:
        rows.append((sum([power * weights[name] for name, power in product]), number))
    return rows


def product_from(code, names, base):
    pairs = []
    rest = code
    for name in names:
        if rest % base > 0:
            pairs.append((name, rest % base))
        rest = rest // base
    return tuple(pairs)


def highest_power(F):
    highest = 0
    for product, number in F:
        for name, power in product:
            highest = max(highest, power)
    return highest


def power_in(product, name):
    return dict(product).get(name, 0)


def product_without(product, name):
    return tuple([pair for pair in product if pair[0] != name])


def common_divisor(one, other):
    while other != 0:
        rest = one % other
        one = other
        other = rest
    return one


def powers_up_to(number, highest):
    powers = [1]
    while len(powers) <= highest:
        powers.append(powers[-1] * number)
    return powers
