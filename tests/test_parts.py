"""Kinds of faults and parts of a discipline: points 85 and 86."""

import itertools
import random

from elseput.books import Book
from elseput.disciplines import Discipline
from elseput.errors import UnknownShape
from elseput.finding import standings
from elseput.judging import judge
from elseput.parts import fault_kinds, restricted
from elseput.plans import Plan
from tests.helpers import Case, discipline, drawn_book, drawn_discipline

TEXT = """keys b a
fields n m
s: a change, b change; add n 1, set m 0
t: b tell, a tell
u: a refuse"""


def texts(found):
    return (found.book.text(), [(name, plan.text()) for name, plan in found])


class Kinds(Case):
    def test_point_85_no_kinds(self):
        self.assertEqual(fault_kinds(Discipline(Book(["a"], ["n"]))), [])
        self.assertEqual(fault_kinds(discipline("keys a\nfields n\ns: a change; add n 1")), [])

    def test_point_85_each_kind_alone(self):
        for kind, shape, plan in (
            ("doubled", "s: a refuse", "look a"), ("lost", "s: a change; add n 1", "take a, look a"),
            ("told", "s: a change, b tell; add n 1, add m 1", "take a, look a, take b, look b; lock a"),
        ):
            self.assertEqual(fault_kinds(discipline(f"keys a b\nfields n m\n{shape}", s=plan)), [kind])
        self.assertEqual(fault_kinds(discipline("keys a b\nfields n\ns: a tell, b tell\nt: b tell, a tell")), ["stuck"])

    def test_point_85_all_kinds_in_their_order_and_each_once(self):
        found = discipline(TEXT, u="look a", s="take a, look a, take b, look b")
        self.assertEqual(fault_kinds(found), ["doubled", "lost", "told", "stuck"])
        found["u"] = Plan.read("take a, look a")
        self.assertEqual(fault_kinds(found), ["lost", "told", "stuck"])
        found["s"] = Plan.read("take b, take a, look a, look b")
        self.assertEqual(fault_kinds(found), ["lost", "told"])

    def test_point_85_is_the_kinds_of_the_standings(self):
        rng = random.Random(85)
        met = set()
        for _ in range(150):
            found = drawn_discipline(rng, drawn_book(rng, shapes=4))
            kinds = fault_kinds(found)
            self.assertIs(type(kinds), list)
            self.assertEqual(kinds, list(dict.fromkeys(standing.kind for standing in standings(found))))
            self.assertIs(judge(found).safe, kinds == [])
            met.add(tuple(kinds))
        self.assertTrue(len(met) > 5)


class Parts(Case):
    def setUp(self):
        self.found = discipline(TEXT, t="take b, take a, look b, look a; lock b; keep a", u="look a")

    def test_point_86_the_shapes_in_the_order_of_the_book(self):
        head = "keys b a\nfields n m"
        u = ("u", "look a")
        t = ("t", "take b, take a, look b, look a; lock b; keep a")
        for names, lines, plans in (
            ([], "", []), (["u"], "\nu: a refuse", [u]), (["u", "t"], "\nt: b tell, a tell\nu: a refuse", [t, u]),
            (("t", "u", "t", "t"), "\nt: b tell, a tell\nu: a refuse", [t, u]), (("t",), "\nt: b tell, a tell", [t]),
        ):
            with self.subTest(names=names):
                part = restricted(self.found, names)
                self.assertIs(type(part), Discipline)
                self.assertEqual(texts(part), (head + lines, plans))

    def test_point_86_all_names(self):
        self.assertEqual(texts(restricted(self.found, ["u", "t", "s"])), texts(self.found))
        self.assertEqual(texts(restricted(self.found, ["s", "s", "t", "u", "u"])), texts(self.found))

    def test_point_86_the_first_unknown_name(self):
        for names, bad in ((["x"], "x"), (["s", "y", "x"], "y"), (["s", "t", "u", ""], ""), (("A", "s"), "A"),
                           (["keys"], "keys")):
            self.fails(UnknownShape, {"name": bad}, restricted, self.found, names)
        self.fails(UnknownShape, {"name": "s"}, restricted, restricted(self.found, ["t"]), ["t", "s"])
        self.fails(UnknownShape, {"name": "s"}, restricted, Discipline(Book(["a"], ["n"])), ["s"])

    def test_points_3_and_86_what_is_returned_and_given_stays(self):
        names, before = ["t", "s"], texts(self.found)
        part = restricted(self.found, names)
        whole = texts(part)
        names.append("u")
        self.found["t"] = Plan.read("look b, look a")
        self.assertEqual(texts(part), whole)
        self.found["t"] = Plan.read("take b, take a, look b, look a; lock b; keep a")
        part["t"] = Plan.read("look b, look a")
        self.assertEqual(texts(self.found), before)
        self.assertEqual(names, ["t", "s", "u"])

    def test_point_86_safe_exactly_if_its_parts_are(self):
        rng = random.Random(86)
        seen = set()
        for _ in range(120):
            found = drawn_discipline(rng, drawn_book(rng, shapes=5))
            book = found.book
            names = [shape.name for shape in book]
            most = 2 if book.full else max(2, len(book.key_names))
            parts = [restricted(found, chosen) for many in range(most + 1) for chosen in itertools.combinations(names, many)]
            safe = judge(found).safe
            self.assertIs(all(judge(part).safe for part in parts), safe)
            seen.add((safe, book.full))
        self.assertEqual(len(seen), 4)

    def test_point_86_a_ring_of_four_needs_four_shapes(self):
        text = "keys a b c d\nfields n\ns: a tell, b tell\nt: b tell, c tell\nu: c tell, d tell\nv: d tell, a tell"
        found = discipline(text)
        self.assertFalse(judge(found).safe)
        self.assertTrue(all(judge(restricted(found, chosen)).safe for chosen in itertools.combinations("stuv", 3)))

    def test_point_86_the_standing_of_the_verdict(self):
        rng = random.Random(861)
        kinds = set()
        for _ in range(120):
            found = drawn_discipline(rng, drawn_book(rng))
            standing = judge(found).standing
            if standing is not None:
                again = judge(restricted(found, standing.names)).standing
                for one, two in ((standing, again), (again, standing)):
                    self.assertEqual((one.kind, one.names, one.path, one.cost), (two.kind, two.names, two.path, two.cost))
                    self.assertEqual((one.sentence(), one.table().rows(), one.statements(), one.weaving().turns),
                                     (two.sentence(), two.table().rows(), two.statements(), two.weaving().turns))
                kinds.add(standing.kind)
        self.assertTrue(len(kinds) > 2)
