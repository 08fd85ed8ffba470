"""A store of facts: what was read from the teller or told, until it is forgotten."""

from taglook.errors import NoStrength
from taglook.papers import is_strength


class Facts:
    def __init__(self, teller):
        self.teller = teller
        self.strengths = {}
        self.asked = []

    def strength(self, kind, word):
        if self.known(kind, word) is None:
            self.strengths[(kind, word)] = self.teller(kind, word)
            self.asked.append((kind, word))
        return self.known(kind, word)

    def known(self, kind, word):
        return self.strengths.get((kind, word))

    def tell(self, kind, word, one):
        if not is_strength(one):
            raise NoStrength(one)
        self.strengths[(kind, word)] = one

    def forget(self, kind, word):
        self.strengths.pop((kind, word), None)

    def reads(self):
        return list(self.asked)

    def words_known(self, kind):
        return sorted([word for other, word in self.strengths if other == kind])

    def copied(self):
        twin = Facts(self.teller)
        twin.strengths = dict(self.strengths)
        twin.asked = list(self.asked)
        return twin
