"""The texts of plans: points 7, 8 and 49."""

from elseput.errors import BadPlan
from elseput.plans import Plan
from tests.helpers import BOUND, Case

read = Plan.read
STEPS = "take a, take b, look b, free b, look a"


class Texts(Case):
    def test_point_49_texts(self):
        steps = [("take", "a"), ("take", "b"), ("look", "b"), ("free", "b"), ("look", "a")]
        for locked, kept, text in (
            ([], [], STEPS), (["a"], [], STEPS + "; lock a"), ([], ["b"], STEPS + "; keep b"),
            (["a", "b"], [], STEPS + "; lock b a"), ([], ["a", "b"], STEPS + "; keep b a"),
            (["a", "b"], ["a"], STEPS + "; lock b a; keep a"),
        ):
            self.assertEqual(Plan(steps, locked=locked, kept=kept).text(), text)
        self.assertEqual(Plan([("look", "abc")]).text(), "look abc")

    def test_point_49_reading(self):
        plan = read(" take a,look  b ,free a, look a;lock a  b; keep b")
        self.assertEqual(plan.steps, (("take", "a"), ("look", "b"), ("free", "a"), ("look", "a")))
        self.assertEqual((plan.locked, plan.kept), (("b", "a"), ("b",)))
        self.assertIs(type(plan), Plan)

    def test_point_49_a_text_is_read_back(self):
        for line in ("look a", "take a, look a; lock a", "take a, look a; keep a", "look b, look a; lock b; keep a",
                     "take b, look a, look b; lock a b; keep a b", STEPS):
            plan = read(line)
            self.assertEqual(plan.text(), line)
            again = read(plan.text())
            self.assertEqual((again.steps, again.locked, again.kept), (plan.steps, plan.locked, plan.kept))

    def test_point_49_the_steps_of_a_line(self):
        for line, column in (
            ("", 1), ("  ", 3), ("jump a", 1), ("a", 1), ("take", 5), ("take ", 6), ("take 1", 6), ("take look", 6),
            ("look a b", 8), ("look a look b", 8), ("look a,", 8), ("look a, ", 9), ("look a,, look b", 8),
            ("look a, b", 9), (", look a", 1), ("look a: lock a", 7), ("lock a", 1), ("; lock a", 1), ("look A", 6),
            ("look a, keep b", 9), ("looka", 1), ("look abcdefghijklm", 6), ("look -1", 6),
            (f"look {BOUND}", 6), ("look (a)", 6),
        ):
            self.bad_column(read, line, column)

    def test_point_49_the_locked_keys_of_a_line(self):
        for line, column in (
            ("look a;", 8), ("look a; ", 9), ("look a; a", 9), ("look a; lock", 13), ("look a; lock ", 14),
            ("look a; lock lock", 14), ("look a; lock a,", 15), ("look a; lock a, b", 15), ("look a; lock a keep", 16),
            ("look a; lock a keep a", 16), ("look a; lock 1", 14), ("look a; lock; keep a", 13), ("look a lock a", 8),
            ("look a; look b", 9), ("look a; lock a;", 16), ("look a; lock a; lock a", 17),
            ("look a; lock a; look a", 17), ("look a; lock a; a", 17), ("look a;; keep a", 8),
            ("look a; lock a;; keep a", 16),
        ):
            self.bad_column(read, line, column)

    def test_point_49_the_kept_keys_of_a_line(self):
        for line, column in (
            ("look a; keep", 13), ("look a; lock a; keep", 21), ("look a; lock a; keep ", 22), ("look a; keep a;", 15),
            ("look a; keep a; lock a", 15), ("look a; lock a; keep a;", 23), ("look a; keep a, b", 15),
            ("look a; keep a lock", 16), ("look a; keep a keep a", 16), ("look a; keep a:", 15),
            ("look a; lock a; keep a b c 1", 28),
        ):
            self.bad_column(read, line, column)

    def test_points_7_and_49_characters_that_belong_to_no_token_come_first(self):
        for line, column in (("jump a ?", 8), ("look a, -", 9), ("look A; ?", 6), ("look a\n", 7), ("look; = ", 7)):
            self.bad_column(read, line, column)

    def test_points_8_and_49_bad_text_comes_before_bad_plan(self):
        self.bad_column(read, "look a, look a; lock a a; keep z, z", 33)
        self.bad_column(read, "free a,", 8)
        self.bad_column(read, "take a; lock", 13)

    def test_point_49_bad_plans(self):
        for line in ("take a", "look a, look a", "free a, look a", "look a; lock b", "look a; keep b",
                     "look a; lock a a", "look a; keep a a", "look a; lock a; keep a a"):
            with self.subTest(line=line):
                self.fails(BadPlan, {}, read, line)
