"""Disciplines: points 50 and 51."""

from elseput.books import Book
from elseput.disciplines import Discipline
from elseput.errors import BadPlan, UnknownShape
from elseput.plans import Plan
from elseput.shapes import Shape
from tests.helpers import Case

TEXT = """keys a b c
fields n
visit: b change, a tell, c refuse; add n 1
seen: a tell
new: c refuse, b refuse"""


def texts(discipline):
    return [(name, plan.text()) for name, plan in discipline]


class Disciplines(Case):
    def setUp(self):
        self.book = Book.read(TEXT)
        self.discipline = Discipline(self.book)

    def test_point_50_the_plain_plans(self):
        self.assertEqual(texts(self.discipline), [
            ("visit", "take b, look b, take a, look a, take c, look c; lock b a"),
            ("seen", "take a, look a; lock a"),
            ("new", "take c, look c, take b, look b"),
        ])
        self.assertEqual([self.discipline[name].kept for name in ("visit", "seen", "new")], [(), (), ()])

    def test_point_50_each_plain_plan_fits_its_shape(self):
        for shape in self.book:
            self.assertIs(self.discipline[shape.name].fits(shape), True)

    def test_point_50_the_book(self):
        self.assertIs(type(self.discipline.book), Book)
        self.assertEqual(self.discipline.book.text(), TEXT)

    def test_point_50_a_book_without_shapes(self):
        discipline = Discipline(Book(["a"], ["n"]))
        self.assertEqual((len(discipline), list(discipline)), (0, []))
        self.assertEqual((discipline.waste, discipline.locks, discipline.keeps), (0, 0, 0))
        self.fails(UnknownShape, {"name": "visit"}, lambda: discipline["visit"])

    def test_points_3_and_50_a_book_that_is_changed_later(self):
        self.book["late"] = Shape.read("late: a tell")
        self.book["visit"] = Shape.read("visit: c tell")
        self.assertEqual(self.discipline.book.text(), TEXT)
        self.assertEqual(len(self.discipline), 3)
        self.fails(UnknownShape, {"name": "late"}, lambda: self.discipline["late"])
        self.fails(BadPlan, {}, self.set, "visit", "look c")
        self.set("visit", "look b, look a, look c")

    def set(self, name, line):
        self.discipline[name] = Plan.read(line)

    def test_point_51_a_plan_is_replaced(self):
        before = texts(self.discipline)
        plan = Plan.read("look a; keep a")
        self.discipline["seen"] = plan
        self.assertEqual(self.discipline["seen"].text(), plan.text())
        self.assertEqual(texts(self.discipline), [before[0], ("seen", "look a; keep a"), before[2]])
        self.set("visit", "take a, look b, look a, look c; lock a; keep b a")
        self.assertEqual([name for name, _ in self.discipline], ["visit", "seen", "new"])
        self.assertEqual(self.discipline["visit"].text(), "take a, look b, look a, look c; lock a; keep b a")

    def test_point_51_plans_that_do_not_fit(self):
        before = texts(self.discipline)
        for name, line in (
            ("seen", "look b"), ("seen", "look a, look b"), ("visit", "look a, look b, look c"),
            ("visit", "look b, look a"), ("visit", "look b, look a, look c; lock c"),
            ("visit", "look b, look a, look c; keep c"),
            ("new", "look c, look b; lock b"), ("new", "look b, look c"),
        ):
            with self.subTest(name=name, line=line):
                self.fails(BadPlan, {}, self.set, name, line)
                self.assertEqual(texts(self.discipline), before)

    def test_point_51_unknown_shapes_come_first(self):
        before = texts(self.discipline)
        for name in ("nix", "", "a", "keys"):
            self.fails(UnknownShape, {"name": name}, lambda: self.discipline[name])
            self.fails(UnknownShape, {"name": name}, self.set, name, "look a")
            self.fails(UnknownShape, {"name": name}, self.set, name, "look c; lock c")
        self.assertEqual(texts(self.discipline), before)

    def test_point_51_iteration(self):
        pairs = list(self.discipline)
        self.assertEqual([name for name, _ in pairs], ["visit", "seen", "new"])
        self.assertTrue(all(type(pair) is tuple and type(pair[1]) is Plan for pair in pairs))
        self.assertEqual(len(self.discipline), 3)

    def test_point_51_sums(self):
        self.assertEqual((self.discipline.waste, self.discipline.locks, self.discipline.keeps), (0, 3, 0))
        self.set("visit", "take a, take b, take c, look b, look a, look c; lock a; keep b a")
        self.assertEqual((self.discipline.waste, self.discipline.locks, self.discipline.keeps), (3, 2, 2))
        self.set("new", "take b, look c, look b")
        self.set("seen", "look a; lock a; keep a")
        self.assertEqual((self.discipline.waste, self.discipline.locks, self.discipline.keeps), (4, 2, 3))

    def test_two_disciplines_of_one_book_share_nothing(self):
        other = Discipline(self.book)
        self.set("seen", "look a")
        self.assertEqual(other["seen"].text(), "take a, look a; lock a")
