import unittest

from taglook.errors import NoStrength
from taglook.facts import Facts
from taglook.papers import paper_of

from tests.refused import refusal
from tests.tellers import Teller, no_strengths, teller_of_word

PAIRS = [(kind, word) for kind in "ab" for word in "vw"]


def state(store):
    """What a store tells without asking its teller."""
    return ([store.known(*pair) for pair in PAIRS], [store.words_known(kind) for kind in "ab"], store.reads())


class Strengths(unittest.TestCase):
    def test_at_first_nothing_is_known_or_read(self):
        teller = Teller({("a", "w"): 2})
        store = Facts(teller)
        self.assertIsNone(store.known("a", "w"))
        self.assertEqual((store.words_known("a"), store.reads(), teller.asked), ([], [], []))

    def test_asked_once_and_known_then(self):
        teller = Teller({("a", "w"): 2, ("b", "w"): 1})
        store = Facts(teller)
        for kind, one in [("a", 2), ("b", 1), ("c", 0)]:
            for unused in range(3):
                self.assertEqual(store.strength(kind, "w"), one)
                self.assertEqual(store.known(kind, "w"), one)
        self.assertEqual(teller.asked, [("a", "w"), ("b", "w"), ("c", "w")])
        self.assertEqual(store.reads(), teller.asked)

    def test_a_teller_that_tells_otherwise_later(self):
        teller = Teller({("a", "w"): 1})
        store = Facts(teller)
        store.strength("a", "w")
        for one in [0, 2]:
            teller.facts[("a", "w")] = one
            self.assertEqual((store.strength("a", "w"), store.known("a", "w")), (1, 1))
        store.forget("a", "w")
        self.assertEqual(store.strength("a", "w"), 2)
        self.assertEqual(store.reads(), [("a", "w"), ("a", "w")])

    def test_knowing_asks_nothing(self):
        teller = Teller({("a", "w"): 2})
        store = Facts(teller)
        store.known("a", "w")
        store.words_known("a")
        store.reads()
        store.tell("a", "w", 1)
        store.forget("a", "w")
        store.copied()
        self.assertEqual(teller.asked, [])
        self.assertEqual(store.reads(), [])

    def test_names_that_would_be_alike_when_joined(self):
        store = Facts(Teller())
        store.tell("ab", "c", 1)
        store.tell("a", "bc", 2)
        store.tell("a.b", "c", 0)
        store.tell("a", "b.c", 1)
        told = [store.known("ab", "c"), store.known("a", "bc"), store.known("a.b", "c"), store.known("a", "b.c")]
        self.assertEqual(told, [1, 2, 0, 1])
        self.assertIsNone(store.known("abc", ""))
        self.assertIsNone(store.known("c", "ab"))
        self.assertIsNone(store.known("bc", "a"))

    def test_any_texts(self):
        store = Facts(Teller({("", " "): 2}))
        self.assertEqual(store.strength("", " "), 2)
        self.assertEqual(store.strength("A B", ""), 0)
        self.assertEqual(store.reads(), [("", " "), ("A B", "")])


class Told(unittest.TestCase):
    def test_known_from_then_on_whatever_was_known(self):
        teller = Teller({("a", "w"): 2})
        store = Facts(teller)
        for one in [0, 1, 2, 2, 0]:
            self.assertIsNone(store.tell("a", "w", one))
            self.assertEqual((store.known("a", "w"), store.strength("a", "w")), (one, one))
        self.assertEqual(teller.asked, [])
        store.strength("b", "w")
        store.tell("b", "w", 2)
        self.assertEqual(store.strength("b", "w"), 2)
        self.assertEqual(store.reads(), [("b", "w")])

    def test_what_is_no_strength(self):
        for thing in no_strengths():
            store = Facts(Teller())
            store.tell("a", "w", 1)
            before = state(store)
            for word in ["w", "v"]:
                told = refusal(store.tell, "a", word, thing)
                self.assertIsInstance(told, NoStrength)
                self.assertEqual(told.value, thing)
                self.assertIs(type(told.value), type(thing))
            self.assertEqual(state(store), before)

    def test_forgotten(self):
        teller = Teller({("a", "w"): 1})
        store = Facts(teller)
        self.assertIsNone(store.forget("a", "w"))
        self.assertIsNone(store.known("a", "w"))
        store.tell("a", "w", 2)
        store.tell("a", "v", 2)
        store.tell("b", "w", 2)
        self.assertIsNone(store.forget("a", "w"))
        self.assertEqual([store.known(*pair) for pair in PAIRS], [2, None, None, 2])
        self.assertEqual(store.strength("a", "w"), 1)
        self.assertEqual(store.reads(), [("a", "w")])

    def test_words_known_of_a_kind(self):
        store = Facts(Teller())
        for word in ["m", "z", "a", "mm", "k"]:
            store.tell("x", word, 0)
        store.tell("y", "b", 1)
        store.strength("x", "c")
        self.assertEqual(store.words_known("x"), ["a", "c", "k", "m", "mm", "z"])
        self.assertEqual(store.words_known("y"), ["b"])
        self.assertEqual(store.words_known("z"), [])
        store.forget("x", "m")
        store.tell("x", "z", 2)
        self.assertEqual(store.words_known("x"), ["a", "c", "k", "mm", "z"])


class Reads(unittest.TestCase):
    def test_in_order_and_of_papers_just_what_was_not_known(self):
        teller = teller_of_word("w", {"d": 2})
        store = Facts(teller)
        store.tell("b", "w", 0)
        self.assertEqual(paper_of(["c", "b", "a", "d", "e"], "w", store.strength), (("c", "b", "a"), "d", 2))
        self.assertEqual(store.reads(), [("c", "w"), ("a", "w"), ("d", "w")])
        store.forget("d", "w")
        store.forget("c", "w")
        paper_of(["d", "c"], "w", store.strength)
        self.assertEqual(store.reads(), [("c", "w"), ("a", "w"), ("d", "w"), ("d", "w")])
        self.assertEqual(store.reads(), teller.asked)

    def test_told_lists_changed_behind(self):
        store = Facts(Teller())
        store.strength("a", "w")
        store.reads().clear()
        store.words_known("a").clear()
        self.assertEqual(store.reads(), [("a", "w")])
        self.assertEqual(store.words_known("a"), ["w"])
        told = store.reads()
        store.strength("b", "w")
        self.assertEqual(told, [("a", "w")])


class Copies(unittest.TestCase):
    def setUp(self):
        self.teller = Teller({("a", "w"): 2, ("b", "w"): 1})
        self.store = Facts(self.teller)
        self.store.strength("a", "w")
        self.store.tell("b", "v", 1)

    def test_a_copy_knows_the_same(self):
        twin = self.store.copied()
        self.assertIsInstance(twin, Facts)
        self.assertEqual(state(twin), state(self.store))
        self.assertEqual(twin.strength("b", "w"), 1)
        self.assertEqual(self.teller.asked, [("a", "w"), ("b", "w")])

    def test_what_is_done_to_the_one_stays_with_it(self):
        for first_is_changed in [True, False]:
            self.setUp()
            twin = self.store.copied()
            changed, other = (self.store, twin) if first_is_changed else (twin, self.store)
            before = state(other)
            changed.strength("b", "w")
            changed.tell("a", "v", 0)
            changed.tell("a", "w", 1)
            changed.forget("b", "v")
            self.assertEqual(state(other), before)
            self.assertEqual(changed.reads(), [("a", "w"), ("b", "w")])

    def test_copies_of_copies(self):
        twin = self.store.copied()
        twin.tell("a", "v", 2)
        third = twin.copied()
        twin.forget("a", "v")
        third.strength("b", "w")
        self.assertEqual([one.known("a", "v") for one in (self.store, twin, third)], [None, None, 2])
        self.assertEqual([len(one.reads()) for one in (self.store, twin, third)], [1, 1, 2])

    def test_two_stores_of_one_teller(self):
        other = Facts(self.teller)
        self.assertIsNone(other.known("a", "w"))
        self.assertEqual(other.reads(), [])


if __name__ == "__main__":
    unittest.main()
