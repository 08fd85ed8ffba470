"""The names of the interface, with their arguments, as the document has them."""

import importlib
import inspect
import unittest

FUNCTIONS = {
    "names": ["is_name(thing)"],
    "merging": ["merged(rows)", "is_merged(rows, told)", "is_ring(rows, steps)"],
    "loops": ["loop_of(elders)", "is_loop(elders, ring)"],
    "lines": ["lines_of(elders)"],
    "papers": [
        "paper_of(line, word, strength)", "rest_behind(line, start)", "found_all(line, word, strength)",
        "wrong_at(line, word, strength, paper)", "is_paper(line, word, strength, paper)",
    ],
    "asks": ["value_of(things, name, answer)"],
    "foretell": ["fallen(site)", "foretold(site, turns, facts)"],
    "texts": [
        "read_row(text)", "read_names(word)", "read_whole(word)", "read_turn(word)", "read_fact(word)",
        "read_paper(word)", "show_names(names)", "show_paper(paper)",
    ],
}
CLASSES = {
    "house.House()": [
        "add(name, elders, at=None)", "drop(name)", "turn_all(turns)", "may_turn(turns)", "kinds()", "elders_of(name)",
        "line(name)", "heirs(name)", "rows_of(name)", "copied()",
    ],
    "facts.Facts(teller)": [
        "strength(kind, word)", "known(kind, word)", "tell(kind, word, one)", "forget(kind, word)", "reads()",
        "words_known(kind)", "copied()",
    ],
    "town.Town(teller)": [
        "add(name, elders, at=None)", "drop(name)", "shift(turns, facts)", "may_shift(turns, facts)", "kinds()",
        "elders_of(name)", "line(name)", "heirs(name)", "tag(name)", "deeds()", "known(kind, word)",
        "look(kind, word, start=None)", "reads()",
    ],
    "sites.Site(town, word, room=4, start=None)": ["ask(kind)", "kept()"],
    "shapes.Shapes()": [
        "number_of(words)", "words_of(number)", "grown(number, word)", "without(number, word)", "slot_of(number, word)",
        "many()",
    ],
    "things.Things(town)": [
        "make(name, kind)", "put(name, word, value)", "take(name, word)", "move(name, kind)", "drop(name)", "names()",
        "kind_of(name)", "shape_of(name)", "value_at(name, slot)", "own(name)",
    ],
    "asks.ThingSite(things, word, room=4)": ["ask(name)", "kept()"],
    "history.History(town)": [
        "add(name, elders, at=None)", "drop(name)", "shift(turns, facts)", "back()", "done()",
    ],
    "desk.Desk()": ["say(row)"],
}


def module(name):
    return importlib.import_module("taglook." + name)


class Interface(unittest.TestCase):
    def check(self, holder, told):
        name = told.split("(")[0]
        self.assertEqual(name + str(inspect.signature(getattr(holder, name))), told)

    def test_functions(self):
        for name, functions in FUNCTIONS.items():
            for told in functions:
                self.check(module(name), told)

    def test_classes(self):
        for told, methods in CLASSES.items():
            name, made = told.split(".")
            holder = getattr(module(name), made.split("(")[0])
            self.check(module(name), made)
            for method in methods:
                self.check(holder, method.replace("(", "(self, ").replace("(self, )", "(self)"))


if __name__ == "__main__":
    unittest.main()
