"""Two disciplines at work: points 93 to 96."""

import random

from elseput.books import Book
from elseput.disciplines import Discipline
from elseput.errors import BadBook, BadName, TooLarge
from elseput.judging import judge
from elseput.least import lazy, least
from elseput.orders import KeyOrder, every_order
from elseput.parts import restricted
from elseput.plans import Plan
from elseput.rings import obeyed_orders
from elseput.rollouts import alongside, bridge, compatible, strictest
from tests.helpers import BAD_NAMES, Case, discipline, drawn_book, drawn_discipline, drawn_shape

HEAD = "keys b a\nfields n m\n"


def texts(found):
    return (found.book.text(), [(name, plan.text()) for name, plan in found])


def many(count, start=0):
    """A discipline with so many shapes."""
    lines = [f"{name}: a tell" for name in "stuvwxyz"[start:start + count]]
    return discipline("\n".join(["keys b a", "fields n m", *lines]))


class Alongside(Case):
    def setUp(self):
        self.first = discipline(HEAD + "s: a change; add n 1\nt: b refuse", s="take a, look a; keep a")
        self.second = discipline(HEAD + "s: b tell, a change; when n < 3; set m 2\nq: a refuse", q="look a",
                                 s="take b, take a, look b, look a; lock a")

    def test_point_93_the_book_and_the_plans(self):
        found = alongside(self.first, self.second, ["z", "a"])
        self.assertIs(type(found), Discipline)
        self.assertEqual(texts(found), (
            HEAD + "s: a change; add n 1\nt: b refuse\nz: b tell, a change; when n < 3; set m 2\na: a refuse",
            [("s", "take a, look a; keep a"), ("t", "take b, look b"), ("z", "take b, take a, look b, look a; lock a"),
             ("a", "look a")],
        ))

    def test_point_93_books_without_shapes(self):
        empty = Discipline(Book(["b", "a"], ["n", "m"]))
        self.assertEqual(texts(alongside(empty, empty, [])), texts(empty))
        self.assertEqual(texts(alongside(self.first, empty, ())), texts(self.first))
        self.assertEqual(texts(alongside(empty, self.first, ("s", "t"))), texts(self.first))

    def test_point_93_a_discipline_beside_itself(self):
        found = alongside(self.first, self.first, ("u", "v"))
        self.assertEqual([(name, plan.text()) for name, plan in found][2:],
                         [("u", "take a, look a; keep a"), ("v", "take b, look b")])

    def test_point_93_bad_names(self):
        for bad in BAD_NAMES:
            with self.subTest(bad=bad):
                self.fails(BadName, {"name": bad}, alongside, self.first, self.second, ["z", bad])
                self.fails(BadName, {"name": bad}, alongside, self.first, self.second, [bad, "A"])

    def test_point_93_bad_names_come_first(self):
        other = discipline("keys a b\nfields n m\ns: a tell")
        self.fails(BadName, {"name": "A"}, alongside, self.first, other, ["s", "s", "A", "B"])
        self.fails(BadName, {"name": ""}, alongside, many(4), many(4), ["s", "t", "t", "t", ""])

    def test_point_93_bad_books(self):
        for text in ("keys a b\nfields n m\nq: a tell", "keys b\nfields n m\nq: b tell", "keys b a\nfields m n\nq: a tell",
                     "keys b a\nfields n\nq: a tell", "keys b a c\nfields n m\nq: a tell"):
            self.fails(BadBook, {}, alongside, self.first, discipline(text), ["z"])
        for names in ([], ["z"], ["z", "y", "x"], ["z", "z"], ["s", "z"], ["z", "t"], ["t", "s"], ["z", "y", "z"]):
            with self.subTest(names=names):
                self.fails(BadBook, {}, alongside, self.first, self.second, names)
        self.assertEqual(len(alongside(self.first, self.second, ["q", "z"])), 4)

    def test_point_93_too_large(self):
        names = ["aa", "bb", "cc", "dd", "ee", "ff"]
        for one, two in ((3, 3), (0, 6), (6, 0), (5, 1)):
            self.assertEqual(len(alongside(many(one), many(two), names[:two])), 6)
        for one, two in ((3, 4), (6, 1), (1, 6), (6, 6)):
            self.fails(TooLarge, {"most": 6}, alongside, many(one), many(two), names[:two])

    def test_point_93_bad_books_come_before_too_large(self):
        self.fails(BadBook, {}, alongside, many(6), many(2), ["aa"])
        self.fails(BadBook, {}, alongside, many(6), many(2), ["aa", "aa"])
        self.fails(BadBook, {}, alongside, many(6), many(2), ["aa", "s"])
        self.fails(BadBook, {}, alongside, many(6), discipline("keys a\nfields n m\ns: a tell"), ["aa"])

    def test_points_3_and_93_what_is_given_and_returned_stays(self):
        names = ["z", "y"]
        before = (texts(self.first), texts(self.second))
        found = alongside(self.first, self.second, names)
        whole = texts(found)
        names.clear()
        found["s"] = Plan.read("look a")
        found["z"] = Plan.read("look b, look a")
        self.assertEqual((texts(self.first), texts(self.second)), before)
        found = alongside(self.first, self.second, ["z", "y"])
        self.first["s"] = Plan.read("look a")
        self.second["q"] = Plan.read("take a, look a")
        self.assertEqual(texts(found), whole)


class Compatible(Case):
    def one(self, shapes, **plans):
        return discipline(HEAD + shapes, **plans)

    def both(self, first, second):
        found = compatible(first, second)
        self.assertIs(type(found), bool)
        self.assertIs(compatible(second, first), found)
        return found

    def test_point_94_books_with_other_names(self):
        found = self.one("s: a tell")
        for text in ("keys a b\nfields n m", "keys b\nfields n m", "keys b a\nfields m n", "keys b a\nfields n",
                     "keys b a\nfields m n\ns: a tell"):
            self.fails(BadBook, {}, compatible, found, discipline(text))
            self.fails(BadBook, {}, compatible, discipline(text), found)

    def test_point_94_books_without_shapes(self):
        empty = Discipline(Book(["b", "a"], ["n", "m"]))
        self.assertIs(self.both(empty, empty), True)
        self.assertIs(self.both(empty, self.one("s: a change; add n 1")), True)
        self.assertIs(self.both(empty, self.one("s: a change; add n 1", s="take a, look a")), False)

    def test_point_94_one_that_is_not_safe(self):
        good = self.one("s: a refuse")
        for shape, plan in (("t: a refuse", "look a"), ("t: a change; set n 0", "take a, look a")):
            self.assertIs(self.both(good, self.one(shape, t=plan)), False)
        self.assertIs(self.both(good, self.one("t: a tell, b tell\nu: b tell, a tell")), False)

    def test_point_94_no_common_order(self):
        first = self.one("s: a tell, b tell")
        self.assertIs(self.both(first, first), True)
        for plan, found in (("take b, look b, take a, look a; lock b a", False),
                            ("take a, take b, look b, look a; lock b a", True)):
            self.assertIs(self.both(first, self.one("s: b tell, a tell", s=plan)), found)

    def test_point_94_each_obeys_an_order_but_not_the_same(self):
        first = discipline("keys a b c\nfields n\ns: a tell, b tell\nt: b tell, c tell")
        second = discipline("keys a b c\nfields n\ns: c tell, a tell")
        self.assertIs(self.both(first, second), False)
        self.assertIs(self.both(first, discipline("keys a b c\nfields n\ns: a tell, c tell")), True)

    def test_point_94_clashes_have_to_be_excluded(self):
        change = "take a, look a"
        for one, two, found in (("; lock a", "; lock a", True), ("; keep a", "; keep a", True), ("; lock a", "; keep a", False),
                                ("; lock a; keep a", "; keep a", True), ("; lock a; keep a", "; lock a", True)):
            first = self.one("s: a change; add n 1", s=change + one)
            second = self.one("s: a change; set m 1", s=change + two)
            with self.subTest(one=one, two=two):
                self.assertIs(self.both(first, second), found)

    def test_point_94_visitors_of_unlike_keys(self):
        first = self.one("s: a change; add n 1", s="take a, look a; keep a")
        second = self.one("t: b change; add n 1", t="take b, look b; keep b")
        self.assertIs(self.both(first, second), False)
        first["s"], second["t"] = Plan.read("take a, look a; lock a"), Plan.read("take b, look b; lock b")
        self.assertIs(self.both(first, second), True)

    def test_point_94_no_clash_between_the_two_books(self):
        first = self.one("s: a change; when n < 1; add m 1", s="take a, look a; keep a")
        second = self.one("s: a change; when n > 0; add m 1", s="take a, look a; lock a")
        self.assertIs(self.both(first, second), True)
        second = self.one("s: a change; when n >= 0; add m 1", s="take a, look a; lock a")
        self.assertIs(self.both(first, second), False)

    def test_point_94_those_that_tell_what_is_written_in_parts(self):
        first = self.one("s: a tell", s="take a, look a")
        self.assertIs(self.both(first, self.one("t: b change; add n 1, add m 1")), False)
        self.assertIs(self.both(first, self.one("t: b change; add n 1")), True)
        first["s"] = Plan.read("take a, look a; lock a")
        self.assertIs(self.both(first, self.one("t: b change; add n 1, add m 1")), True)

    def test_point_94_more_than_six_shapes_together(self):
        self.assertIs(self.both(many(6), many(6)), True)
        lines = "\n".join(f"{name}: a change; add n 1" for name in "stuvwx")
        self.assertIs(self.both(self.one(lines), many(6)), True)
        kept = {name: "take a, look a; keep a" for name in "stuvwx"}
        self.assertIs(self.both(self.one(lines), self.one(lines, **kept)), False)
        self.assertIs(self.both(self.one(lines, **kept), self.one(lines, **kept)), True)

    def test_point_94_is_alongside_judged(self):
        rng = random.Random(94)
        met = {True: 0, False: 0}
        while min(met.values()) < 40:
            book = drawn_book(rng, shapes=3)
            keys, fields = list(book.key_names), list(book.field_names)
            shapes = [drawn_shape(rng, name, keys, fields) for name in ("xx", "yy", "zz")[:rng.randint(0, 3)]]
            first = rng.choice((least, Discipline))(book)
            other = rng.choice((least, Discipline))(Book(keys, fields, *shapes))
            if rng.random() < 0.3 and len(book):
                first["tt"] = lazy(book, rng.choice(list(every_order(keys))))["tt"]
            names = ["aaa", "bbb", "ccc"][:len(other)]
            found = self.both(first, other)
            self.assertIs(judge(alongside(first, other, names)).safe, found)
            met[found] += 1


class Strictest(Case):
    def test_point_95_the_plans(self):
        book = Book.read("keys a b c\nfields n\ns: c change, a refuse, b tell; add n 1\nt: a refuse\nu: b tell, c tell")
        for order, plans in (
            ("abc", ["take a, take b, take c, look c, look a, look b; lock c b; keep c b", "take a, look a",
                     "take b, take c, look b, look c; lock b c; keep b c"]),
            ("bca", ["take b, take c, take a, look c, look a, look b; lock c b; keep c b", "take a, look a",
                     "take b, take c, look b, look c; lock b c; keep b c"]),
            ("cxba", ["take c, take b, take a, look c, look a, look b; lock c b; keep c b", "take a, look a",
                      "take c, take b, look b, look c; lock b c; keep b c"]),
        ):
            found = strictest(book, KeyOrder(order))
            self.assertIs(type(found), Discipline)
            self.assertEqual([plan.text() for _, plan in found], plans)
            self.assertEqual(found.book.text(), book.text())

    def test_point_95_a_book_without_shapes(self):
        self.assertEqual(list(strictest(Book(["a"], ["n"]), KeyOrder("a"))), [])

    def test_point_95_safe_and_of_the_greatest_cost(self):
        rng = random.Random(95)
        together = 0
        for _ in range(80):
            book = drawn_book(rng, shapes=4)
            order = rng.choice(list(every_order(book.key_names)))
            found = strictest(book, order)
            self.assertTrue(judge(found).safe)
            self.assertIn(order.names, [other.names for other in obeyed_orders(found)])
            for other in (drawn_discipline(rng, book), Discipline(book), lazy(book, order), least(book)):
                self.assertTrue(other.waste <= found.waste and other.locks <= found.locks and other.keeps <= found.keeps)
                if judge(other).safe and order.names in [one.names for one in obeyed_orders(other)]:
                    self.assertIs(compatible(found, other), True)
                    self.assertIs(compatible(other, found), True)
                    together += 1
        self.assertTrue(together > 80)

    def test_points_3_and_95_the_book_and_the_order_stay(self):
        book, order = Book.read("keys a b\nfields n\ns: b tell, a tell"), KeyOrder("ab")
        found = strictest(book, order)
        book["t"] = book["s"].read("t: a tell")
        order += "c"
        self.assertEqual(texts(found), ("keys a b\nfields n\ns: b tell, a tell",
                                        [("s", "take a, take b, look b, look a; lock b a; keep b a")]))
        found["s"] = Plan.read("look b, look a")
        self.assertEqual(order.names, ("a", "b", "c"))
        self.assertEqual(len(book), 2)


class Bridges(Case):
    SHAPES = HEAD + "s: a change, b change; add n 1"

    def plans(self, old, new):
        """The texts of the disciplines of the bridge between two plans, or None."""
        found = bridge(discipline(self.SHAPES, s=old), discipline(self.SHAPES, s=new))
        return found if found is None else [texts(one) for one in found]

    def test_point_96_books_that_are_not_the_same(self):
        found = discipline(self.SHAPES)
        for text in ("keys a b\nfields n m\ns: a change, b change; add n 1", HEAD + "s: a change, b change; add n 2",
                     HEAD + "t: a change, b change; add n 1", HEAD + "s: b change, a change; add n 1", HEAD.strip(),
                     HEAD + "s: a change, b change; add n 1\nt: a tell"):
            self.fails(BadBook, {}, bridge, found, discipline(text))
            self.fails(BadBook, {}, bridge, discipline(text), found)

    def test_point_96_other_books_come_before_unsafe_disciplines(self):
        self.fails(BadBook, {}, bridge, discipline(self.SHAPES, s="look a, look b"), discipline(HEAD + "t: a tell", t="look a"))

    def test_point_96_no_bridge(self):
        locked = "take a, look a, take b, look b; lock a b"
        for old, new in ((locked, "look a, look b"), ("look a, look b", locked), ("look a, look b", "look a, look b"),
                         (locked, "take b, take a, look a, look b; lock a b"),
                         ("take b, take a, look a, look b; lock a b", locked)):
            self.assertIsNone(self.plans(old, new))

    def test_point_96_nothing_between(self):
        locked = "take a, look a, take b, look b; lock a b"
        for new in (locked, locked + "; keep b", "take a, take b, look a, look b; lock a b; keep a b"):
            self.assertEqual(self.plans(locked, new), [])
            self.assertEqual(self.plans(new, locked), [])
        empty = Discipline(Book(["a"], ["n"]))
        self.assertEqual(bridge(empty, empty), [])

    def test_point_96_one_between(self):
        shapes = "keys c a b\nfields n\ns: a change; add n 1\nt: a change, b refuse; set n 0"
        old = discipline(shapes, s="take a, look a; lock a", t="take a, look a, take b, look b; lock a")
        new = discipline(shapes, s="take a, look a; keep a", t="take a, take b, look a, look b; keep a")
        self.assertTrue(judge(old).safe and judge(new).safe and not compatible(old, new))
        for one, two in ((old, new), (new, old)):
            found = bridge(one, two)
            self.assertIs(type(found), list)
            self.assertEqual([texts(between) for between in found], [(shapes, [
                ("s", "take a, look a; lock a; keep a"), ("t", "take a, take b, look a, look b; lock a; keep a"),
            ])])
            self.assertTrue(compatible(one, found[0]) and compatible(found[0], two))

    def test_point_96_the_first_order_that_both_obey(self):
        shapes = "keys c b a\nfields n\ns: a change; add n 1\nt: c refuse, b refuse, a refuse\nu: b refuse, a refuse"
        plans = {"t": "take c, look c, take a, take b, look b, look a", "u": "take b, look b, take a, look a"}
        old = discipline(shapes, s="take a, look a; lock a", **plans)
        new = discipline(shapes, s="take a, look a; keep a", **plans)
        self.assertIsNone(bridge(old, new))
        for found in (old, new):
            found["u"] = Plan.read("take a, take b, look b, look a")
        self.assertEqual([plan.text() for _, plan in bridge(old, new)[0]], [
            "take a, look a; lock a; keep a", "take c, take a, take b, look c, look b, look a",
            "take a, take b, look b, look a",
        ])

    def test_points_3_and_96_the_disciplines_stay(self):
        shapes = "keys a\nfields n\ns: a change; add n 1"
        old = discipline(shapes, s="take a, look a; lock a")
        new = discipline(shapes, s="take a, look a; keep a")
        before = (texts(old), texts(new))
        found = bridge(old, new)
        found[0]["s"] = Plan.read("look a")
        found.clear()
        self.assertEqual((texts(old), texts(new)), before)
        found = bridge(old, new)
        whole = texts(found[0])
        old["s"] = new["s"] = Plan.read("look a")
        self.assertEqual(texts(found[0]), whole)

    def test_point_96_drawn_disciplines(self):
        rng = random.Random(96)
        met = {}
        while len(met) < 4 or min(met.values()) < 5:
            book = drawn_book(rng, keys=3, shapes=2)
            orders = list(every_order(book.key_names))
            makers = (least, lambda book: lazy(book, rng.choice(orders)), lambda book: strictest(book, rng.choice(orders)),
                      lambda book: drawn_discipline(rng, book), self.kept)
            old, new = rng.choice(makers)(book), rng.choice(makers)(book)
            found = bridge(old, new)
            kind = "unsafe" if not (judge(old).safe and judge(new).safe) else None if found is None else len(found)
            if found is not None:
                row = [old, *found, new]
                self.assertTrue(all(judge(one).safe for one in row))
                self.assertTrue(all(compatible(one, two) for one, two in zip(row, row[1:])))
                self.assertEqual(len(found), 0 if compatible(old, new) else 1)
            elif kind is None:
                self.assertTrue(any((second, first) in new[name].pairs() for name, plan in old for first, second in plan.pairs()))
            else:
                self.assertEqual((kind, found), ("unsafe", None))
            met[kind] = met.get(kind, 0) + 1

    def kept(self, book):
        """A discipline that keeps all that it can, and locks no more than it has to."""
        found = least(book)
        for shape in book:
            visited = [key for key, action in shape if action != "refuse"]
            plan = found[shape.name]
            trial = restricted(found, [name for name, _ in found])
            trial[shape.name] = Plan(plan.steps, kept=visited)
            locked = () if judge(trial).safe else plan.locked
            found[shape.name] = Plan(plan.steps, locked=locked, kept=visited)
        return found
