import unittest

from taglook.desk import Desk
from taglook.errors import (
    Heired, Loop, NoKind, NoOwn, NoRoom, NoSite, NothingBack, NoThing, NotThere, Tangled, TooMany, Twice,
)

from tests.desks import desk_of, diamond, state
from tests.refused import refusal, refused


class DeskCase(unittest.TestCase):
    def setUp(self):
        self.desk = diamond()

    def check(self, *pairs):
        """Each row and its answer, one behind another."""
        for row, answer in pairs:
            told = self.desk.say(row)
            self.assertIs(type(told), str)
            self.assertEqual(told, answer, row)

    def check_refused(self, told, row):
        before = state(self.desk)
        self.assertEqual(refused(self.desk.say, row), told, row)
        self.assertEqual(state(self.desk), before, row)


class AtFirst(DeskCase):
    def test_nothing_is_there(self):
        self.desk = Desk()
        self.check(("kinds", "-"), ("things", "-"), ("deeds", "0"), ("done", "0"), ("reads", ""))
        self.assertEqual(refused(self.desk.say, "back"), (NothingBack,))
        self.assertEqual(refused(self.desk.say, "line a"), (NoKind, "a"))
        self.assertEqual(refused(self.desk.say, "own a"), (NoThing, "a"))
        self.assertEqual(refused(self.desk.say, "kept s"), (NoSite, "s"))

    def test_desks_apart(self):
        other = Desk()
        self.check(("ask s d", "anew d,b>c=1"))
        for row in ["kinds", "things"]:
            self.assertEqual(other.say(row), "-")
        self.assertEqual([other.say(row) for row in ["deeds", "done", "reads"]], ["0", "0", ""])
        self.assertEqual(refused(other.say, "kept s"), (NoSite, "s"))
        other.say("kind c -")
        self.assertEqual(other.say("look c w"), "c>-=0")


class Deeds(DeskCase):
    def test_kinds_added(self):
        self.check(
            ("kind y d", "y"), ("kind z - 0", "z"), ("kind u y,x 3", "u"), ("kinds", "z,a,b,u,c,d,x,y"),
            ("line u", "u,y,d,b,c,a,x"), ("elders u", "y,x"), ("deeds", "8"), ("done", "8"), ("tag u", "8"),
        )

    def test_adding_refused(self):
        self.check_refused((Twice, "a"), "kind a no")
        self.check_refused((TooMany, 5), "kind y no,a,a,a,a,a")
        self.check_refused((NoKind, "y"), "kind y a,y")
        self.check_refused((Twice, "b"), "kind y b,b 0")
        self.assertIsInstance(refusal(self.desk.say, "kind y a,b"), Tangled)
        for name in "klmnopq":
            self.desk.say(f"kind {name} -")
        self.check_refused((TooMany, 12), "kind y no")

    def test_dropped(self):
        self.check(("drop d", "-"), ("drop x", "-"), ("kinds", "a,b,c"), ("deeds", "7"), ("done", "7"))
        self.check_refused((NoKind, "d"), "drop d")
        self.check_refused((Heired, "a", "b"), "drop a")

    def test_shifts(self):
        self.check(
            ("shift", "-"), ("shift d:c,b", "d"), ("line d", "d,c,b,a"), ("shift a.w=1 x.v=2", "-"),
            ("shift a.w=?", "a,b,c,d"), ("known a w", "-"), ("known x v", "2"), ("shift x.v=0 b:- c:- a.w=0", "b,c,d,x"),
            ("rows d", "c\nb\nc,b"), ("rows c", "-"), ("deeds", "10"), ("done", "10"),
        )

    def test_turns_and_facts_mixed_each_in_their_order(self):
        self.check(("shift a.w=1 d:c b.w=2 b:- c.w=?", "b,d"), ("elders d", "c"), ("known b w", "2"))
        self.check_refused((Twice, "b"), "shift a.w=1 b:- a.w=1 b:-")
        self.check_refused((NoKind, "no"), "shift nor.w=1 no:-")
        self.check_refused((NoKind, "no"), "shift no.w=1 nor.w=1")
        self.check_refused((NoKind, "no"), "shift no:- nor:-")

    def test_shifts_refused(self):
        self.check_refused((NoKind, "no"), "shift no:-")
        self.check_refused((NoKind, "no"), "shift a:no")
        self.check_refused((Twice, "a"), "shift a:- a:-")
        self.check_refused((Twice, "b"), "shift d:b,b")
        self.check_refused((TooMany, 5), "shift d:a,a,a,a,a,a")
        self.check_refused((NoKind, "no"), "shift a:a no.w=1")
        self.check_refused((Twice, "w"), "shift a:a a.w=1 a.w=?")
        told = refusal(self.desk.say, "shift a:a a.w=1")
        self.assertIsInstance(told, Loop)
        self.assertEqual(told.ring, ["a"])
        told = refusal(self.desk.say, "shift d:a,b a.w=1")
        self.assertIsInstance(told, Tangled)
        self.assertEqual(told.name, "d")
        self.check(("known a w", "-"), ("done", "5"))

    def test_taken_back(self):
        before = [self.desk.say(row) for row in ["kinds", "line d", "line x"]]
        self.check(
            ("shift d:c,b a.w=1", "d"), ("kind y d 0", "y"), ("drop x", "-"), ("done", "8"),
            ("back", "x"), ("back", "-"), ("done", "6"), ("back", "a,b,c,d"), ("known a w", "-"), ("done", "5"),
            ("deeds", "11"),
        )
        self.assertEqual([self.desk.say(row) for row in ["kinds", "line d", "line x"]], before)
        self.check(("back", "-"), ("back", "-"), ("back", "-"), ("back", "-"), ("back", "-"), ("kinds", "-"))
        self.assertEqual(refused(self.desk.say, "back"), (NothingBack,))
        self.check(("done", "0"), ("deeds", "16"))


class Stores(DeskCase):
    def test_told_from_now_on(self):
        self.check(
            ("store x w 1", "ok"), ("look x w", "->x=1"), ("known x w", "1"), ("store x w 2", "ok"), ("look x w", "->x=1"),
            ("reads", "x.w"), ("shift x.w=?", "x"), ("look x w", "->x=2"), ("reads", "x.w x.w"),
        )

    def test_told_otherwise_while_facts_are_known(self):
        self.check(
            ("ask s d", "anew d,b>c=1"), ("store c w 0", "ok"), ("store d w 2", "ok"), ("ask s d", "same d,b>c=1"),
            ("look d w", "d,b>c=1"), ("shift c.w=?", "c,d"), ("fallen s", ""), ("ask s d", "anew d,b,c>a=2"),
            ("known c w", "0"), ("reads", "d.w b.w c.w c.w a.w"),
        )

    def test_of_a_kind_that_is_not_there(self):
        self.check(("store new w 2", "ok"), ("kind new -", "new"), ("look new w", "->new=2"))

    def test_no_deed_and_nothing_known_by_it(self):
        self.check(("store a v 2", "ok"), ("deeds", "5"), ("done", "5"), ("known a v", "-"), ("reads", ""))

    def test_nought_where_it_was_told_nothing(self):
        self.check(("look d v", "d,b,c,a>-=0"), ("store a v 1", "ok"), ("store a v 0", "ok"), ("look a v", "a>-=0"))


class Places(DeskCase):
    def test_sites_made(self):
        self.check(
            ("site one w 1", "ok"), ("site two w 8", "ok"), ("site three w 4 d", "ok"), ("kept one", ""),
            ("ask three d", "anew b>c=1"), ("ask one d", "anew d,b>c=1"),
        )

    def test_sites_refused(self):
        for name in ["s", "up", "p"]:
            self.check_refused((Twice, name), f"site {name} w 4")
            self.check_refused((Twice, name), f"site {name} w 0 b")
            self.check_refused((Twice, name), f"stand {name} w 4")
            self.check_refused((Twice, name), f"stand {name} w 9")
        for room in [0, 9, -1, 10**59]:
            self.check_refused((NoRoom, room), f"site new w {room}")
            self.check_refused((NoRoom, room), f"site new w {room} b")
            self.check_refused((NoRoom, room), f"stand new w {room}")
            self.assertEqual(refused(self.desk.say, "kept new"), (NoSite, "new"))
        self.check(("site new w 8", "ok"))
        self.check(("stand newer w 1", "ok"))

    def test_names_of_kinds_and_things_may_be_places(self):
        self.check(("site a w 4", "ok"), ("stand t w 4", "ok"), ("ask a a", "anew ->a=2"), ("ask t t", "anew own=1 7"))

    def test_rooms(self):
        self.check(
            ("site one w 1", "ok"), ("ask one a", "anew ->a=2"), ("ask one x", "anew x>-=0"), ("kept one", "x x>-=0 5"),
            ("ask one a", "anew ->a=2"),
        )


class ThingRows(DeskCase):
    def test_made_put_taken_moved_and_lost(self):
        self.check(
            ("thing new a", "ok"), ("things", "t,r,new"), ("own new", ""), ("put new w 5", "ok"), ("put new v -6", "ok"),
            ("own new", "w=5 v=-6"), ("put new w 0", "ok"), ("own new", "w=0 v=-6"), ("take new w", "ok"),
            ("own new", "v=-6"), ("move new d", "ok"), ("lose t", "ok"), ("things", "r,new"), ("thing t a", "ok"),
            ("things", "r,new,t"), ("own t", ""), ("lose t", "ok"), ("lose r", "ok"), ("lose new", "ok"), ("things", "-"),
        )

    def test_values_of_sixty_figures(self):
        for value in ["9" * 60, "-" + "9" * 60, "0"]:
            self.check((f"put r w {value}", "ok"), ("own r", f"w={value}"), ("ask p r", f"{self.way(value)} own=0 {value}"))

    def way(self, value):
        return "anew" if value == "9" * 60 else "same"

    def test_refused(self):
        self.check_refused((Twice, "t"), "thing t no")
        self.check_refused((NoKind, "no"), "thing new no")
        self.check_refused((NoThing, "no"), "put no w 1")
        self.check_refused((NoThing, "no"), "take no w")
        self.check_refused((NoOwn, "x"), "take t x")
        self.check_refused((NoThing, "no"), "move no nor")
        self.check_refused((NoKind, "no"), "move t no")
        self.check_refused((NoThing, "no"), "lose no")
        self.check_refused((NoThing, "no"), "own no")
        for word in "abcdefghijkl":
            self.desk.say(f"put r {word} 1")
        self.check_refused((TooMany, 12), "put r w 1")
        for one in "abcdefghijklmnopqrstuvwxyz":
            self.desk.say(f"thing z{one} a")
        for one in "abcdefghijkl":
            self.desk.say(f"thing y{one} a")
        self.check_refused((TooMany, 40), "thing new no")

    def test_no_deeds(self):
        self.check(("thing new a", "ok"), ("put new w 5", "ok"), ("take new w", "ok"), ("move new b", "ok"))
        self.check(("lose new", "ok"), ("deeds", "5"), ("done", "5"))


class Asking(DeskCase):
    def test_look(self):
        self.check(
            ("look d w", "d,b>c=1"), ("look d w b", "->c=1"), ("look d w c", "->a=2"), ("look d w a", "->-=0"),
            ("look x w", "x>-=0"), ("look a w", "->a=2"), ("reads", "d.w b.w c.w a.w x.w"),
        )
        self.check_refused((NoKind, "no"), "look no w nor")
        self.check_refused((NotThere, "x"), "look d w x")
        self.check_refused((NotThere, "no"), "look d v no")

    def test_ask_a_site(self):
        self.check(
            ("ask s d", "anew d,b>c=1"), ("ask s d", "same d,b>c=1"), ("shift b.w=?", "b,d"), ("ask s d", "held d,b>c=1"),
            ("shift b.w=2", "b,d"), ("ask s d", "anew d>b=2"), ("ask s x", "anew x>-=0"), ("ask up d", "anew ->c=1"),
            ("ask up b", "anew ->a=2"),
        )
        self.check_refused((NoKind, "no"), "ask s no")
        self.check_refused((NoKind, "t"), "ask s t")
        self.check_refused((NotThere, "b"), "ask up a")
        self.check_refused((NoSite, "no"), "ask no a")
        self.check_refused((NoSite, "no"), "ask no nor")

    def test_ask_a_stand(self):
        self.check(
            ("ask p t", "anew own=1 7"), ("ask p t", "same own=1 7"), ("put t w 8", "ok"), ("ask p t", "same own=1 8"),
            ("ask p r", "anew x>-=0 -"), ("shift c.w=2", "c,d"), ("ask p t", "anew d,b>c=2 c"),
            ("shift c.w=?", "c,d"), ("ask p t", "anew own=1 8"), ("take t v", "ok"), ("ask p t", "anew own=0 8"),
            ("take t w", "ok"), ("ask p t", "anew d,b>c=1 c"), ("shift a.w=1", "-"), ("shift a.w=0", "a,b,c,d"),
            ("ask p t", "held d,b>c=1 c"),
        )
        self.check_refused((NoThing, "no"), "ask p no")
        self.check_refused((NoThing, "d"), "ask p d")
        self.desk.say("drop x")
        self.check_refused((NoKind, "x"), "ask p r")

    def test_kept(self):
        self.check(
            ("kept s", ""), ("kept p", ""), ("ask s d", "anew d,b>c=1"), ("ask s x", "anew x>-=0"),
            ("kept s", "d d,b>c=1 4\nx x>-=0 5"), ("ask s d", "same d,b>c=1"), ("kept s", "x x>-=0 5\nd d,b>c=1 4"),
            ("ask p t", "anew own=1 7"), ("kept p", "d 2 own=1 d,b>c=1 4"), ("ask p r", "anew x>-=0 -"),
            ("kept p", "d 2 own=1 d,b>c=1 4\nx 0 x>-=0 x>-=0 5"), ("kept up", ""),
        )
        self.check_refused((NoSite, "no"), "kept no")
        self.check_refused((NoSite, "t"), "kept t")

    def test_fallen_and_foretold(self):
        self.check(
            ("fallen s", ""), ("foretold s", ""), ("ask s d", "anew d,b>c=1"), ("ask s x", "anew x>-=0"),
            ("foretold s x.w=1 b.w=2", "d 1\nx 0"), ("foretold s d:c,b", "d 1"), ("foretold s d:c,b d.w=1", "d 0"),
            ("foretold s b.w=? d.w=?", ""), ("foretold s c:-", "d 2"), ("fallen s", ""), ("done", "5"), ("known b w", "0"),
            ("shift x.w=1 b.w=2", "b,d,x"), ("fallen s", "d 1\nx 0"), ("foretold s", "d 1\nx 0"),
            ("foretold s b.w=0", "x 0"), ("reads", "d.w b.w c.w x.w"),
        )

    def test_foretold_of_sites_whose_names_have_two_and_three_letters(self):
        # Of the line behind b the paper of up has c, that of big the whole line.
        self.check(
            ("site big w 4", "ok"), ("ask up d", "anew ->c=1"), ("ask big d", "anew d,b>c=1"), ("foretold up", ""),
            ("foretold up b.w=1", ""), ("foretold big b.w=1", "d 1"), ("foretold up c.w=2", "d 0"),
            ("foretold up d:b,x,c", "d 0"), ("foretold big d:b,x,c", "d 2"),
        )

    def test_fallen_and_foretold_refused(self):
        self.desk.say("ask s d")
        self.desk.say("ask p t")
        for name in ["no", "p", "t", "d"]:
            self.check_refused((NoSite, name), f"fallen {name}")
            self.check_refused((NoSite, name), f"foretold {name}")
            self.check_refused((NoSite, name), f"foretold {name} no:-")
        self.check_refused((NoKind, "no"), "foretold s nor.w=1 no:-")
        self.check_refused((Twice, "w"), "foretold s a:a a.w=1 a.w=1")
        before = state(self.desk)
        self.assertIsInstance(refusal(self.desk.say, "foretold s a:a"), Loop)
        self.assertIsInstance(refusal(self.desk.say, "foretold s d:a,b"), Tangled)
        self.assertEqual(state(self.desk), before)

    def test_a_kept_answer_outlives_a_deed_that_is_taken_back(self):
        self.check(
            ("ask s d", "anew d,b>c=1"), ("shift d:c,b c.w=2 b.w=?", "b,c,d"), ("back", "c,d"),
            ("ask s d", "held d,b>c=1"), ("reads", "d.w b.w c.w"),
        )


class Showing(DeskCase):
    def test_kinds(self):
        self.check(
            ("kinds", "a,b,c,d,x"), ("elders a", "-"), ("elders d", "b,c"), ("line a", "a"), ("line d", "d,b,c,a"),
            ("heirs a", "a,b,c,d"), ("heirs d", "d"), ("rows a", "-"), ("rows b", "a\na"), ("rows d", "b,a\nc,a\nb,c"),
            ("tag a", "1"), ("tag x", "5"), ("deeds", "5"), ("done", "5"),
        )

    def test_known_and_read(self):
        self.check(
            ("known c w", "-"), ("reads", ""), ("look c w", "->c=1"), ("known c w", "1"), ("reads", "c.w"),
            ("look a u", "a>-=0"), ("known a u", "0"), ("reads", "c.w a.u"), ("shift c.w=2 a.u=?", "a,b,c,d"),
            ("known c w", "2"), ("known a u", "-"), ("reads", "c.w a.u"),
        )

    def test_things(self):
        self.check(("things", "t,r"), ("own t", "v=-5 w=7"), ("own r", ""))

    def test_refused(self):
        for sort in ["elders", "line", "heirs", "rows", "tag"]:
            self.check_refused((NoKind, "no"), f"{sort} no")
            self.check_refused((NoKind, "t"), f"{sort} t")
        self.check_refused((NoKind, "no"), "known no w")
        self.check_refused((NoThing, "a"), "own a")

    def test_no_deeds(self):
        rows = [
            "look d w", "ask s d", "ask p t", "kept s", "kept p", "fallen s", "foretold s a:- a.w=1", "kinds", "things",
            "elders d", "line d", "heirs d", "rows d", "tag d", "deeds", "done", "known d w", "reads", "own t",
        ]
        for row in rows:
            self.desk.say(row)
        self.check(("deeds", "5"), ("done", "5"), ("tag d", "4"), ("line a", "a"))


class TheExample(unittest.TestCase):
    """The one of the document's stage of sites, told to a desk."""

    def test_rows(self):
        desk = desk_of(["kind a -", "kind b -", "kind c a,b", "store b w 2", "site s w 4", "site up w 4 a"])
        self.assertEqual(desk.say("ask s c"), "anew c,a>b=2")
        self.assertEqual(desk.say("ask s c"), "same c,a>b=2")
        self.assertEqual(desk.say("shift a.w=?"), "a,c")
        self.assertEqual(desk.say("ask s c"), "held c,a>b=2")
        self.assertEqual(desk.say("ask up c"), "anew ->b=2")
        self.assertEqual(desk.say("reads"), "c.w a.w b.w a.w")


if __name__ == "__main__":
    unittest.main()
