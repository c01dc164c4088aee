"""Visitors and the reasons why they do no harm to each other: points 66 to 68."""

import random

from elseput.books import Book
from elseput.contents import least_content
from elseput.disciplines import Discipline
from elseput.plans import Plan
from elseput.visitors import pair_reasons, visitors
from tests.helpers import Case, discipline, drawn_book, drawn_discipline

HEAD = "keys a b c\nfields n m\n"


class Visitors(Case):
    def test_point_66_a_book_without_shapes(self):
        self.assertEqual(visitors(Book(["a"], ["n"])), [])
        self.assertEqual(pair_reasons(Discipline(Book(["a"], ["n"]))), [])

    def test_point_66_refuse_arms_are_no_visitors(self):
        self.assertEqual(visitors(Book.read(HEAD + "s: a refuse, b refuse")), [])
        book = Book.read(HEAD + "s: c refuse, b tell, a refuse\nt: a refuse")
        self.assertEqual(visitors(book), [("s", "b")])

    def test_point_66_by_the_shapes_and_then_by_the_arms(self):
        book = Book.read(HEAD + "z: c change, a tell, b change; add n 1\ny: b tell\nx: b tell, c refuse, a tell")
        self.assertEqual(visitors(book), [("z", "c"), ("z", "a"), ("z", "b"), ("y", "b"), ("x", "b"), ("x", "a")])
        book["z"] = book["z"].read("z: a tell")
        self.assertEqual(visitors(book), [("z", "a"), ("y", "b"), ("x", "b"), ("x", "a")])

    def test_points_3_and_66_a_new_list_of_tuples(self):
        book = Book.read(HEAD + "s: a tell")
        visitors(book).append("x")
        self.assertEqual(visitors(book), [("s", "a")])
        self.assertIs(type(visitors(book)), list)
        self.assertIs(type(visitors(book)[0]), tuple)


class Reasons(Case):
    def reasons(self, shapes, **plans):
        found = pair_reasons(discipline(HEAD + shapes, **plans))
        self.assertIs(type(found), list)
        self.assertTrue(all(type(entry) is tuple for entry in found))
        return found

    def reason(self, shapes, first, second, **plans):
        """The reason of two visitors, such as "s.a", of which the first does not come behind the second."""
        found = {entry[:2]: entry[2] for entry in self.reasons(shapes, **plans)}
        return found[tuple(first.split(".")), tuple(second.split("."))]

    def test_point_68_the_order_of_the_pairs(self):
        found = self.reasons("z: c tell, a change; add n 1\ny: b refuse, a tell")
        visited = [("z", "c"), ("z", "a"), ("y", "a")]
        expected = [(first, second) for at, first in enumerate(visited) for second in visited[at:]]
        self.assertEqual([entry[:2] for entry in found], expected)

    def test_point_67_two_that_change_lose_if_some_content_meets_both_conditions(self):
        for one, two, harm in (
            ("", "", True), ("when n < 3;", "when n > 1;", True), ("when n < 3;", "when n > 2;", False),
            ("when n == 1;", "when m == 1;", True), ("when never;", "", False), ("", "when never;", False),
            ("when n < 2 and m > 1;", "when n > 0 and m < 3;", True),
            ("when n < 2 and m > 1;", "when n > 0 and m < 2;", False),
            ("when n < 1000000 and n > -3;", "when n == 999999;", True),
        ):
            with self.subTest(one=one, two=two):
                shapes = f"s: a change; {one} add n 1\nt: b change; {two} set n 0"
                plans = {"s": "take a, look a", "t": "take b, look b"}
                self.assertEqual(self.reason(shapes, "s.a", "t.b", **plans), "open" if harm else "harmless")

    def test_point_67_a_visitor_loses_to_itself_unless_its_condition_never_holds(self):
        bare = {"s": "take a, look a"}
        self.assertEqual(self.reason("s: a change; add n 1", "s.a", "s.a", **bare), "open")
        self.assertEqual(self.reason("s: a change; when n > 3; add n 1", "s.a", "s.a", **bare), "open")
        self.assertEqual(self.reason("s: a change; when never; add n 1", "s.a", "s.a", **bare), "harmless")
        self.assertEqual(self.reason("s: a change; when n < 1 and n > 0; add n 1", "s.a", "s.a", **bare), "harmless")

    def test_point_67_those_that_tell_do_not_lose(self):
        self.assertEqual(self.reason("s: a tell", "s.a", "s.a", s="look a"), "harmless")
        shapes = "s: a change, b tell; add n 1\nt: a tell"
        for first, second in (("s.a", "s.b"), ("s.a", "t.a"), ("s.b", "s.b"), ("s.b", "t.a"), ("t.a", "t.a")):
            self.assertEqual(self.reason(shapes, first, second, s="look a, look b", t="look a"), "harmless")
        self.assertEqual(self.reason(shapes, "s.a", "s.a", s="look a, look b"), "open")

    def test_point_67_whoever_meets_two_assignments_tears(self):
        shapes = "s: a change, b tell; {} add n 1, set m 1\nt: a tell, b change; when never; add n 1"
        bare = {"s": "look a, look b", "t": "look a, look b"}
        for condition, harm in (("", "open"), ("when n < 2;", "open"), ("when never;", "harmless"),
                                ("when n < 2 and n > 3;", "harmless")):
            told = shapes.format(condition)
            for first, second in (("s.a", "s.b"), ("s.a", "t.a"), ("s.a", "t.b")):
                with self.subTest(condition=condition, second=second):
                    self.assertEqual(self.reason(told, first, second, **bare), harm)
            for first, second in (("s.b", "s.b"), ("s.b", "t.a"), ("s.b", "t.b"), ("t.b", "t.b")):
                self.assertEqual(self.reason(told, first, second, **bare), "harmless")

    def test_point_67_it_may_be_the_second_one_that_tears(self):
        shapes = "t: c tell\ns: a change; add n 1, add m 1"
        self.assertEqual(self.reason(shapes, "t.c", "s.a", t="look c", s="look a"), "open")

    def test_point_67_conditions_are_those_of_the_shapes_whatever_they_change(self):
        shapes = "s: a change; when n == 0; set n 5\nt: a change; when n == 5; set n 0"
        self.assertEqual(self.reason(shapes, "s.a", "t.a", s="look a", t="look a"), "harmless")

    def test_point_68_locked(self):
        shapes = "s: a change, b tell; add n 1, add m 1\nt: c tell"
        s, t = "look a, look b", "look c"
        for locks, lock, first, second, reason in (
            ("; lock a b", "; lock c", "s.a", "s.a", "locked"), ("; lock a b", "; lock c", "s.a", "s.b", "locked"),
            ("; lock a b", "; lock c", "s.a", "t.c", "locked"), ("; lock a", "; lock c", "s.a", "t.c", "locked"),
            ("; lock a", "", "s.a", "t.c", "open"), ("; lock b", "; lock c", "s.a", "t.c", "open"),
            ("; lock a", "; lock c", "s.a", "s.b", "open"), ("; lock b", "", "s.a", "s.a", "open"),
            ("; lock a b", "; lock c", "s.b", "t.c", "harmless"), ("; lock a b", "; lock c", "s.b", "s.b", "harmless"),
        ):
            with self.subTest(locks=locks, lock=lock, first=first, second=second):
                self.assertEqual(self.reason(shapes, first, second, s=s + locks, t=t + lock), reason)

    def test_point_68_kept(self):
        shapes = "s: a change; add n 1\nt: b tell, a change; set n 1"
        for s, t, reason in (
            ("take a, look a; keep a", "take a, look b, look a; keep a", "kept"),
            ("take a, look a; keep a", "take a, take b, look b, look a; keep b a", "kept"),
            ("take a, look a; keep a", "take a, look b, look a", "open"),
            ("take a, look a", "take a, look b, look a; keep a", "open"),
            ("take a, look a; keep a", "take b, take a, look b, look a; keep b", "open"),
            ("take a, look a; keep a", "look b, look a; keep a", "open"),
            ("take a, look a; keep a", "look b, look a, take a; keep a", "open"),
            ("take a, free a, look a; keep a", "take a, look b, look a; keep a", "open"),
            ("take a, look a, free a; keep a", "take a, look b, look a, free a; keep a", "kept"),
        ):
            with self.subTest(s=s, t=t):
                self.assertEqual(self.reason(shapes, "s.a", "t.a", s=s, t=t), reason)

    def test_point_68_kept_only_at_the_same_key(self):
        shapes = "s: a change, b change; add n 1"
        plan = "take a, take b, look a, look b; keep a b"
        self.assertEqual(self.reasons(shapes, s=plan), [
            (("s", "a"), ("s", "a"), "kept"), (("s", "a"), ("s", "b"), "open"), (("s", "b"), ("s", "b"), "kept"),
        ])

    def test_point_68_locked_comes_before_kept_and_harmless_before_both(self):
        shapes = "s: a change; add n 1\nt: a tell"
        plans = {"s": "take a, look a; lock a; keep a", "t": "take a, look a; lock a; keep a"}
        self.assertEqual([entry[2] for entry in self.reasons(shapes, **plans)], ["locked", "harmless", "harmless"])

    def test_points_50_and_68_the_plain_discipline_is_locked_throughout(self):
        rng = random.Random(68)
        for _ in range(30):
            found = Discipline(drawn_book(rng))
            self.assertTrue({entry[2] for entry in pair_reasons(found)} <= {"harmless", "locked"})

    def test_points_67_and_68_drawn_disciplines(self):
        rng = random.Random(67)
        met = set()
        for _ in range(150):
            found = drawn_discipline(rng, drawn_book(rng))
            entries = pair_reasons(found)
            visited = visitors(found.book)
            self.assertEqual([entry[:2] for entry in entries],
                             [(one, two) for at, one in enumerate(visited) for two in visited[at:]])
            for first, second, reason in entries:
                self.assertEqual(reason, expected_reason(found, first, second))
                met.add(reason)
        self.assertEqual(met, {"harmless", "locked", "kept", "open"})

    def test_points_3_and_68_the_discipline_stays_as_it_was(self):
        found = discipline(HEAD + "s: a change; add n 1")
        before = (found.book.text(), [(name, plan.text()) for name, plan in found])
        pair_reasons(found).clear()
        self.assertEqual((found.book.text(), [(name, plan.text()) for name, plan in found]), before)
        self.assertEqual(pair_reasons(found), [(("s", "a"), ("s", "a"), "locked")])
        entries = pair_reasons(found)
        found["s"] = Plan.read("look a")
        self.assertEqual(entries, [(("s", "a"), ("s", "a"), "locked")])
        self.assertEqual(pair_reasons(found), [(("s", "a"), ("s", "a"), "open")])


def expected_reason(found, first, second):
    """The reason, word for word as points 67 and 68 tell it."""
    book = found.book
    (one, i), (two, j) = first, second

    def changes(name, key):
        return book[name].action(key) == "change"

    def meets(*names):
        return least_content(book.field_names, [book[name].condition for name in names]) is not None

    def tears(name, key):
        return changes(name, key) and len(book[name].change) >= 2 and meets(name)

    lose = changes(one, i) and changes(two, j) and meets(one, two)
    if not lose and not tears(two, j) and not tears(one, i):
        return "harmless"
    if i in found[one].locked and j in found[two].locked and (changes(one, i) or changes(two, j)):
        return "locked"
    held = found[one].holds_at_look(i) and found[two].holds_at_look(j)
    if i == j and held and i in found[one].kept and j in found[two].kept:
        return "kept"
    return "open"
