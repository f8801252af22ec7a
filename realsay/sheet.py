"""A sheet of known sentences: it takes no new one that can't hold with them, and answers what follows from them."""

from realsay.errors import Clash, NoFact
from realsay.many import truth
from realsay.sentences import both, free_in, never, some_of
from realsay.texts import read


class Sheet:
    def __init__(self):
        self.facts = []

    def tell(self, text):
        S = read(text)
        if not go_together(self.facts + [S]):
            raise Clash("the known sentences and this one hold together at no point")
        self.facts = self.facts + [S]
        return len(self.facts)

    def ask(self, text):
        S = read(text)
        can_hold = go_together(self.facts + [S])
        if not go_together(self.facts + [never(S)]):
            return "yes"
        return "open" if can_hold else "no"

    def forget(self, place):
        if place < 0 or place >= len(self.facts):
            raise NoFact("no known sentence has this place")
        self.facts = self.facts[:place] + self.facts[place + 1:]

    def known(self):
        return tuple(self.facts)


def go_together(sentences):
    together = both(sentences)
    closed = together
    for name in reversed(free_in(together)):
        closed = some_of(name, closed)
    return truth(closed)
