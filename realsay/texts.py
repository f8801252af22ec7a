"""Sentences read from texts: a text is parted into words, and the words are read one by one.

A term is told as a triple (product, top, bottom), that is top / bottom times the product. Depth is the count of
brackets and words not, some and all that stand around.
"""

from realsay.errors import NoText
from realsay.forms import common_divisor, form_of
from realsay.sentences import all_of, both, compare, either, never, some_of

LETTERS = "abcdefghijklmnopqrstuvwxyz"
FIGURES = "0123456789"
BLANK = " "
SINGLE_SIGNS = "+-*/^():<=>"
DOUBLE_SIGNS = ("<=", ">=", "/=")
WORDS = ("some", "all", "and", "or", "not", "yes", "no")
LONGEST_NAME = 8
LONGEST_ROW = 30
DEEPEST = 30
# Behind the word stands 1 where the right side is taken from the left one, -1 where the left from the right.
COMPARES = {
    "<": ("less", 1), "<=": ("most", 1), "=": ("equal", 1), "/=": ("unlike", 1), ">=": ("most", -1), ">": ("less", -1),
}


def read(text):
    reader = Reader(words_of(text))
    S = reader.sentence(0)
    if not reader.at_end():
        raise NoText("the text goes on behind the sentence")
    return S


def words_of(text):
    words = []
    place = 0
    while place < len(text):
        end = word_end(text, place)
        if text[place] != BLANK:
            words.append(text[place:end])
        place = end
    return words


def word_end(text, place):
    sign = text[place]
    if sign in LETTERS:
        return run_end(text, place, LETTERS)
    if sign in FIGURES:
        return run_end(text, place, FIGURES)
    if text[place:place + 2] in DOUBLE_SIGNS:
        return place + 2
    if sign != BLANK and sign not in SINGLE_SIGNS:
        raise NoText(f"no word has the sign {sign!r}")
    return place + 1


def run_end(text, place, signs):
    end = place
    while end < len(text) and text[end] in signs:
        end += 1
    return end


def is_name(word):
    return word[0] in LETTERS and len(word) <= LONGEST_NAME and word not in WORDS


def row_value(word):
    if word[0] not in FIGURES:
        raise NoText("a name or a row of figures should stand there")
    if len(word) > LONGEST_ROW:
        raise NoText("a row of more than thirty figures")
    return int(word)


def signed(terms, sign):
    return [(product, top * sign, bottom) for product, top, bottom in terms]


# Any common multiple of the bottoms would do, as a compare makes its form lean; the least one keeps numbers small.
def whole_form(terms):
    multiple = 1
    for product, top, bottom in terms:
        multiple = multiple // common_divisor(multiple, bottom) * bottom
    return form_of([(product, top * (multiple // bottom)) for product, top, bottom in terms])


class Reader:
    def __init__(self, words):
        self.words = words
        self.place = 0

    def at_end(self):
        return self.place == len(self.words)

    def ahead(self):
        # A blank is no word: at the end it is taken for none of those that are asked for.
        return BLANK if self.at_end() else self.words[self.place]

    def taken(self):
        if self.at_end():
            raise NoText("the text ends too early")
        self.place += 1
        return self.words[self.place - 1]

    def taken_if(self, word):
        if self.ahead() != word:
            return False
        self.place += 1
        return True

    def expect(self, word):
        if not self.taken_if(word):
            raise NoText(f"{word!r} lacks")

    def sentence(self, depth):
        parts = [self.ands(depth)]
        while self.taken_if("or"):
            parts.append(self.ands(depth))
        return either(parts)

    def ands(self, depth):
        parts = [self.unit(depth)]
        while self.taken_if("and"):
            parts.append(self.unit(depth))
        return both(parts)

    def unit(self, depth):
        word = self.ahead()
        if word in ("yes", "no"):
            return (self.taken(),)
        if word in ("(", "not", "some", "all"):
            return self.nested(depth + 1)
        return self.held()

    def nested(self, depth):
        if depth > DEEPEST:
            raise NoText("more than thirty brackets and words not, some and all within one another")
        word = self.taken()
        if word == "not":
            return never(self.unit(depth))
        if word == "(":
            inner = self.sentence(depth)
            self.expect(")")
            return inner
        return self.bound(word, depth)

    def bound(self, word, depth):
        name = self.taken()
        if not is_name(name):
            raise NoText(f"no name stands behind {word}")
        self.expect(":")
        # The reach goes as far as it can: each and, each or that follows is its own, none is left for those around.
        reach = self.sentence(depth)
        return some_of(name, reach) if word == "some" else all_of(name, reach)

    def held(self):
        left = self.terms()
        sign = self.taken()
        if sign not in COMPARES:
            raise NoText("a sign that compares should stand behind a sum")
        right = self.terms()
        made = COMPARES[sign]
        return compare(made[0], whole_form(signed(left, made[1]) + signed(right, -made[1])))

    def terms(self):
        sign = -1 if self.taken_if("-") else 1
        found = signed([self.term()], sign)
        while self.ahead() in ("+", "-"):
            sign = 1 if self.taken() == "+" else -1
            found.extend(signed([self.term()], sign))
        return found

    def term(self):
        top = 1
        bottom = 1
        powers = {}
        while True:
            word = self.taken()
            if is_name(word):
                powers[word] = powers.get(word, 0) + self.power()
            else:
                top = top * row_value(word)
                bottom = bottom * self.bottom()
            if not self.taken_if("*"):
                return (tuple(sorted(powers.items())), top, bottom)

    def power(self):
        if not self.taken_if("^"):
            return 1
        word = self.taken()
        if word[0] not in FIGURES or len(word) > 1 or word == "0":
            raise NoText("behind ^ stands one figure from 1 to 9")
        return int(word)

    def bottom(self):
        if not self.taken_if("/"):
            return 1
        below = row_value(self.taken())
        if below == 0:
            raise NoText("the row behind / is nought")
        return below
