"""Tellers and strengths for the tests, which note what they were asked."""


class Teller:
    """Tells what it was made of, 0 of all else; notes each asking. Its parameters have no names to call by."""

    def __init__(self, facts=None):
        self.facts = dict(facts or {})
        self.asked = []

    def __call__(self, kind, word, /):
        self.asked.append((kind, word))
        return self.facts.get((kind, word), 0)

    def kinds_asked(self):
        return [kind for kind, word in self.asked]


def teller_of_word(word, strengths):
    """A teller of one word, of a dict from kinds to strengths."""
    return Teller({(kind, word): one for kind, one in strengths.items()})


def no_strengths():
    return [True, False, None, "0", "1", "", "firm", 3, -1, 10**30, 1.0, 0.0, [], [1], (), (1,), {}, {1: 1}, object()]
