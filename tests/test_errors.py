import copy
import unittest

from taglook import errors
from taglook.errors import (
    Heired, LookError, Loop, NoKind, NoName, NoOwn, NoRoom, NoRow, NoSite, NoStrength, NothingBack,
    NoThing, NotThere, Ring, Tangled, TooMany, Twice,
)

CLAIMS = [("a", "b", 0), ("b", "a", 1)]

REFUSALS = [
    (NoName, {"name": "A"}),
    (Twice, {"name": "a"}),
    (NoKind, {"name": "b"}),
    (TooMany, {"most": 12}),
    (Heired, {"name": "a", "heir": "c"}),
    (Loop, {"ring": ["a", "b"]}),
    (Ring, {"steps": CLAIMS}),
    (Tangled, {"name": "d", "steps": CLAIMS}),
    (NoStrength, {"value": 3}),
    (NotThere, {"name": "e"}),
    (NoRoom, {"value": 9}),
    (NoThing, {"name": "f"}),
    (NoOwn, {"word": "w"}),
    (NoSite, {"name": "s"}),
    (NothingBack, {}),
    (NoRow, {"place": 0}),
]


def whatever():
    return ["", "A b", 0, 1, -5, 10**5000, True, False, None, 1.5, [], ["a"], [["a"], []], (), ("a", 1), {}, {"a": [1]}]


class Standing(unittest.TestCase):
    def test_sixteen_and_their_base(self):
        names = {name for name, one in vars(errors).items() if isinstance(one, type)}
        self.assertEqual(names, {refusal.__name__ for refusal, fields in REFUSALS} | {"LookError"})
        self.assertEqual(len(REFUSALS), 16)

    def test_each_stands_straight_under_look_error(self):
        self.assertEqual(LookError.__bases__, (ValueError,))
        for refusal, fields in REFUSALS:
            self.assertEqual(refusal.__bases__, (LookError,), refusal)

    def test_each_is_taken_as_itself_and_as_no_other(self):
        for refusal, fields in REFUSALS:
            made = refusal(*fields.values())
            self.assertIsInstance(made, LookError)
            self.assertIsInstance(made, ValueError)
            taken = [other for other, unused in REFUSALS if isinstance(made, other)]
            self.assertEqual(taken, [refusal])

    def test_each_can_be_raised(self):
        for refusal, fields in REFUSALS:
            for base in [refusal, LookError, ValueError]:
                with self.assertRaises(base):
                    raise refusal(*fields.values())


class Fields(unittest.TestCase):
    def test_kept_under_their_names_in_their_order(self):
        for refusal, fields in REFUSALS:
            self.assertEqual(vars(refusal(*fields.values())), fields, refusal)
            self.assertEqual(vars(refusal(**fields)), fields, refusal)

    def test_neither_fewer_nor_more_fields(self):
        for refusal, fields in REFUSALS:
            handed = list(fields.values())
            with self.assertRaises(TypeError):
                refusal(*handed, "more")
            if handed:
                with self.assertRaises(TypeError):
                    refusal(*handed[1:])

    def test_whatever_is_handed_in_is_kept_as_it_is(self):
        for refusal in [NoName, Twice, NoKind, NoStrength, NotThere, NoRoom, NoThing, NoOwn, NoSite, NoRow, TooMany]:
            for thing in whatever():
                kept = list(vars(refusal(thing)).values())
                self.assertEqual(kept, [thing])
                self.assertIs(type(kept[0]), type(thing))

    def test_things_without_a_copy_are_kept_themselves(self):
        thing = object()
        self.assertIs(NoName(thing).name, thing)
        self.assertIs(NoStrength([thing]).value[0], thing)

    def test_a_list_that_holds_itself(self):
        thing = ["a"]
        thing.append(thing)
        kept = NoName(thing).name
        self.assertIsNot(kept, thing)
        self.assertEqual(kept[0], "a")

    def test_copies_keep_the_fields(self):
        for refusal, fields in REFUSALS:
            twin = copy.copy(refusal(*fields.values()))
            self.assertIs(type(twin), refusal)
            self.assertEqual(vars(twin), fields)


class OwnLists(unittest.TestCase):
    def test_lists_changed_behind_change_nothing(self):
        ring = ["a", "b"]
        steps = list(CLAIMS)
        loop, bare, tangled = Loop(ring), Ring(steps), Tangled("d", steps)
        ring.append("c")
        steps.clear()
        self.assertEqual(loop.ring, ["a", "b"])
        self.assertEqual(bare.steps, CLAIMS)
        self.assertEqual(tangled.steps, CLAIMS)

    def test_kept_lists_changed_leave_what_was_handed_in(self):
        ring = ["a", "b"]
        steps = list(CLAIMS)
        Loop(ring).ring.pop()
        Ring(steps).steps.append(None)
        Tangled("d", steps).steps.clear()
        self.assertEqual(ring, ["a", "b"])
        self.assertEqual(steps, CLAIMS)

    def test_two_refusals_of_one_list_share_nothing(self):
        steps = list(CLAIMS)
        first, second = Ring(steps), Ring(steps)
        first.steps.clear()
        self.assertEqual(second.steps, CLAIMS)

    def test_ring_and_steps_are_lists(self):
        for kept in [Loop(("a",)).ring, Ring(tuple(CLAIMS)).steps, Tangled("a", tuple(CLAIMS)).steps]:
            self.assertIs(type(kept), list)

    def test_lists_and_dicts_in_other_fields_too(self):
        for refusal in [NoName, NoStrength, NoRoom]:
            thing = ["a", ["b"], {"c": ["d"]}, (["e"],)]
            made = refusal(thing)
            for inner in [thing[1], thing[2]["c"], thing[3][0], thing]:
                inner.clear()
            self.assertEqual(list(vars(made).values()), [["a", ["b"], {"c": ["d"]}, (["e"],)]])


if __name__ == "__main__":
    unittest.main()
