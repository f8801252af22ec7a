"""Which sentences can be freed of their words some and all: no name is bound twice, no compare goes beyond a word."""

from realsay.errors import Beyond, Twice
from realsay.forms import power_in
from realsay.sentences import binds, free_in, is_compare, parts_within


# Around it are the words in whose reach it stands; forms are the strained ones of compares in its own reach, in their
# order.
class Word:
    def __init__(self, name, around):
        self.name = name
        self.around = around
        self.forms = []
        self.bent = False
        self.has_bent_within = False
        self.has_bent_around = False


def allowed(S):
    words = []
    note_words(S, [], words)
    free = free_in(S)
    refuse_twice(words, free)
    mark_bent(words)
    for word in words:
        for F in word.forms:
            if goes_beyond(F, word, free):
                raise Beyond(word.name, F)
    return True


def note_words(S, around, words):
    inner = S
    within = around
    # A sheet may have very many words straight within one another: they are passed without a call for each.
    while binds(inner):
        words.append(Word(inner[1], within))
        within = within + words[-1:]
        inner = inner[2]
    if is_compare(inner) and is_strained(inner[1]):
        for word in within:
            word.forms.append(inner[1])
    for part in parts_within(inner):
        note_words(part, within, words)


# Forms whose products are single names, in the first power, bend no word and go beyond none: they are not kept.
def is_strained(F):
    for product, number in F:
        if len(product) > 1 or (len(product) == 1 and product[0][1] > 1):
            return True
    return False


def refuse_twice(words, free):
    twice = {}
    for word in words:
        if word.name in free or word.name in [other.name for other in word.around]:
            twice[word.name] = True
    for word in words:
        if word.name in twice:
            raise Twice(word.name)


def mark_bent(words):
    for word in words:
        powers = [power_in(product, word.name) for product in products_of(word.forms)]
        word.bent = max(powers, default=0) >= 2
    for word in words:
        for other in word.around:
            word.has_bent_around = word.has_bent_around or other.bent
            other.has_bent_within = other.has_bent_within or word.bent


def products_of(forms):
    products = []
    for F in forms:
        products.extend([product for product, number in F])
    return products


def goes_beyond(F, word, free):
    for product, number in F:
        power = power_in(product, word.name)
        beside = [name for name, own in product if name != word.name]
        if power > 0 and product_goes_beyond(power, beside, word, free):
            return True
    return False


def product_goes_beyond(power, beside, word, free):
    if power >= 3:
        return True
    if power == 2 and (beside != [] or len(word.around) >= 2 or word.has_bent_around):
        return True
    # No name is bound twice: one that is not free in the sentence is bound by another word.
    if [name for name in beside if name not in free] != []:
        return True
    return beside != [] and (word.has_bent_within or word.has_bent_around)
