"""Plans: points 44 to 48."""

from elseput.errors import BadName, BadPlan, UnknownKey
from elseput.plans import Plan
from elseput.shapes import Shape
from tests.helpers import BAD_NAMES, Case

read = Plan.read


class Making(Case):
    def test_point_44_attributes(self):
        plan = Plan([("take", "a"), ("look", "b"), ("free", "a"), ("look", "a")], locked=["a", "b"], kept=["a"])
        self.assertEqual(plan.steps, (("take", "a"), ("look", "b"), ("free", "a"), ("look", "a")))
        self.assertEqual((plan.locked, plan.kept), (("b", "a"), ("a",)))

    def test_point_44_nothing_locked_and_nothing_kept(self):
        plan = Plan((("look", "a"),))
        self.assertEqual((plan.steps, plan.locked, plan.kept), ((("look", "a"),), (), ()))

    def test_points_44_and_45_kept_without_locked(self):
        plan = Plan([("look", "a")], kept=("a",))
        self.assertEqual((plan.locked, plan.kept), ((), ("a",)))

    def test_point_44_locked_and_kept_keys_are_in_the_order_of_the_looks(self):
        steps = [("take", "b"), ("look", "c"), ("look", "a"), ("take", "c"), ("look", "b")]
        for given in ("abc", "acb", "bac", "bca", "cab", "cba"):
            plan = Plan(steps, locked=list(given), kept=tuple(given))
            self.assertEqual((plan.locked, plan.kept), (("c", "a", "b"), ("c", "a", "b")))
        plan = Plan(steps, locked=["b", "c"], kept=["b", "a"])
        self.assertEqual((plan.locked, plan.kept), (("c", "b"), ("a", "b")))

    def test_point_45_bad_names(self):
        for bad in BAD_NAMES:
            with self.subTest(bad=bad):
                self.fails(BadName, {"name": bad}, Plan, [("look", bad)])
                self.fails(BadName, {"name": bad}, Plan, [("look", "a"), ("take", bad)])
                self.fails(BadName, {"name": bad}, lambda: Plan([("look", "a")], locked=["a", bad]))
                self.fails(BadName, {"name": bad}, lambda: Plan([("look", "a")], kept=["a", bad]))

    def test_point_45_the_first_bad_name(self):
        steps = [("look", "a"), ("take", "A"), ("take", "B")]
        self.fails(BadName, {"name": "A"}, lambda: Plan(steps, locked=["C"], kept=["D"]))
        self.fails(BadName, {"name": "C"}, lambda: Plan(steps[:1], locked=["C", "E"], kept=["D"]))
        self.fails(BadName, {"name": "D"}, lambda: Plan(steps[:1], locked=["a"], kept=["D", "E"]))

    def test_point_45_bad_name_comes_before_bad_plan(self):
        self.fails(BadName, {"name": "A"}, Plan, [("jump", "a"), ("look", "A")])
        self.fails(BadName, {"name": "A"}, lambda: Plan([], locked=["A"]))
        self.fails(BadName, {"name": "A"}, lambda: Plan([("free", "a")], kept=["z", "z", "A"]))

    def test_point_45_bad_steps(self):
        for steps in (
            [], [("jump", "a")], [("look", "a"), ("Look", "a")], [("look", "a"), ("", "a")],
            [("look", "a"), ("lock", "a")],
            [("look", "a"), ("look", "a")], [("take", "a"), ("look", "a"), ("take", "a")],
            [("take", "a"), ("free", "a"), ("look", "a"), ("free", "a")],
            [("take", "a"), ("free", "a"), ("take", "a"), ("look", "a")],
            [("free", "a"), ("look", "a")], [("look", "a"), ("free", "a")],
            [("free", "a"), ("take", "a"), ("look", "a")],
            [("look", "a"), ("free", "a"), ("take", "a")], [("take", "b"), ("look", "a"), ("look", "b"), ("free", "a")],
            [("take", "a")], [("take", "b"), ("look", "a")], [("take", "a"), ("free", "a")],
            [("look", "a"), ("take", "b"), ("free", "b")],
        ):
            with self.subTest(steps=steps):
                self.fails(BadPlan, {}, Plan, steps)

    def test_point_45_bad_locked_and_kept_keys(self):
        steps = [("take", "a"), ("look", "a"), ("look", "b")]
        for names in (["a", "a"], ["b", "a", "b"], ["c"], ["a", "c"]):
            with self.subTest(names=names):
                self.fails(BadPlan, {}, lambda: Plan(steps, locked=names))
                self.fails(BadPlan, {}, lambda: Plan(steps, kept=names))
                self.fails(BadPlan, {}, lambda: Plan(steps, locked=names, kept=names))

    def test_point_45_good_plans(self):
        for steps in (
            [("look", "a")], [("look", "a"), ("take", "a")], [("look", "a"), ("take", "a"), ("free", "a")],
            [("take", "a"), ("free", "a"), ("look", "a")], [("take", "a"), ("look", "a"), ("free", "a")],
            [("take", "a"), ("look", "b"), ("look", "a"), ("take", "b"), ("free", "a"), ("free", "b")],
        ):
            plan = Plan(steps)
            self.assertEqual(plan.steps, tuple(steps))

    def test_point_45_length_and_iteration(self):
        plan = Plan([("take", "a"), ("look", "b"), ("look", "a")])
        self.assertEqual(len(plan), 3)
        self.assertEqual(list(plan), [("take", "a"), ("look", "b"), ("look", "a")])

    def test_points_3_and_45_what_is_given_is_copied(self):
        steps, locked, kept = [("take", "a"), ("look", "b"), ("look", "a")], ["a", "b"], ["a"]
        plan = Plan(steps, locked=locked, kept=kept)
        self.assertEqual((len(steps), locked, kept), (3, ["a", "b"], ["a"]))
        steps.pop()
        locked.clear()
        kept.append("b")
        self.assertEqual((len(plan), plan.locked, plan.kept), (3, ("b", "a"), ("a",)))

    def test_the_attributes_are_tuples(self):
        plan = Plan([["look", "a"]], locked=["a"], kept=["a"])
        for part in (plan.steps, plan.steps[0], plan.locked, plan.kept):
            self.assertIs(type(part), tuple)


class Fitting(Case):
    def fits(self, plan, shape):
        return read(plan).fits(Shape.read(shape))

    def test_point_46_the_keys_in_their_order(self):
        self.assertIs(self.fits("look a, look b", "s: a tell, b tell"), True)
        self.assertIs(self.fits("take b, look a, look b", "s: a tell, b tell"), True)
        self.assertIs(self.fits("look b, look a", "s: a tell, b tell"), False)
        self.assertIs(self.fits("take a, take b, look b, look a", "s: a tell, b tell"), False)

    def test_point_46_other_keys(self):
        self.assertIs(self.fits("look a", "s: a tell, b tell"), False)
        self.assertIs(self.fits("look a, look b", "s: a tell"), False)
        self.assertIs(self.fits("look c", "s: a tell"), False)
        self.assertIs(self.fits("look a, look c", "s: a tell, b tell"), False)

    def test_point_46_locked_and_kept_keys_at_each_action(self):
        shape = "s: a change, b tell, c refuse; add n 1"
        steps = "take c, look a, look b, look c"
        for keys, fits in (("a", True), ("b", True), ("a b", True), ("c", False), ("a c", False), ("a b c", False)):
            with self.subTest(keys=keys):
                self.assertIs(self.fits(f"{steps}; lock {keys}", shape), fits)
                self.assertIs(self.fits(f"{steps}; keep {keys}", shape), fits)
                self.assertIs(self.fits(f"{steps}; lock {keys}; keep a b", shape), fits)
                self.assertIs(self.fits(f"{steps}; lock a; keep {keys}", shape), fits)
        self.assertIs(self.fits(steps, shape), True)

    def test_point_46_other_keys_with_locked_ones(self):
        self.assertIs(self.fits("look a; lock a", "s: b tell"), False)
        self.assertIs(self.fits("look a, look b; lock b; keep b", "s: a tell"), False)


class Asking(Case):
    def test_point_47_unknown_keys(self):
        plan = read("take a, look a")
        for call in (plan.steps_before, plan.steps_to_look, plan.holds_at_look, plan.covers):
            for key in ("b", "", "take"):
                self.fails(UnknownKey, {"name": key}, call, key)

    def test_point_47_steps_before(self):
        plan = read("take c, look a, take b, look b, look c, free b, take a")
        self.assertEqual([plan.steps_before(key) for key in "abc"], [6, 2, 0])
        self.assertIsNone(read("look a, take b, look b").steps_before("a"))

    def test_point_47_steps_to_look(self):
        plan = read("take c, look a, take b, look b, look c, free b, take a")
        self.assertEqual([plan.steps_to_look(key) for key in "abc"], [2, 4, 5])
        self.assertEqual(read("look a").steps_to_look("a"), 1)

    def test_point_47_holds_at_look_and_covers(self):
        for line, holds, covers in (
            ("look a", False, False), ("take a, look a", True, True), ("look a, take a", False, False),
            ("take a, free a, look a", False, False), ("take a, look a, free a", True, False),
            ("look a, take a, free a", False, False),
            ("take a, take b, look b, free b, look a", True, True),
            ("take a, take b, free a, look a, look b", False, False),
            ("take a, look b, look a, take b, free b, free a", True, False),
        ):
            with self.subTest(line=line):
                self.assertIs(read(line).holds_at_look("a"), holds)
                self.assertIs(read(line).covers("a"), covers)

    def test_point_47_the_keys_of_one_plan(self):
        plan = read("take a, take b, free a, look a, look b, take c, look c, free c, look d")
        self.assertEqual([plan.holds_at_look(key) for key in "abcd"], [False, True, True, False])
        self.assertEqual([plan.covers(key) for key in "abcd"], [False, True, False, False])

    def test_point_48_pairs(self):
        for line, expected in (
            ("look a", ""), ("take a, look a", ""), ("look a, look b", ""),
            ("take a, look a, take b, look b", "ab"), ("take b, take a, look a, look b", "ba"),
            ("take a, free a, take b, look a, look b", ""), ("take a, take b, free a, look a, look b", "ab"),
            ("look a, look b, look c, take c, take a, take b", "ca cb ab"),
            ("take c, take a, take b, look a, look b, look c", "ca cb ab"),
            ("take c, take a, free c, take b, look a, look b, look c", "ca ab"),
            ("take a, take b, take c, take d, look a, look b, look c, look d", "ab ac bc ad bd cd"),
            ("take a, take b, free a, take c, free b, take d, look a, look b, look c, look d", "ab bc cd"),
        ):
            with self.subTest(line=line):
                self.assertEqual(read(line).pairs(), [(pair[0], pair[1]) for pair in expected.split()])

    def test_points_3_and_48_pairs_are_a_new_list_of_tuples(self):
        plan = read("take a, look a, take b, look b")
        plan.pairs().append(("b", "a"))
        self.assertEqual(plan.pairs(), [("a", "b")])
        self.assertIs(type(plan.pairs()), list)
        self.assertIs(type(plan.pairs()[0]), tuple)

    def test_point_48_waste(self):
        for line, waste in (
            ("look a", 0), ("take a, look a", 0), ("take a, look a, take b, look b, take c, look c", 0),
            ("take a, take b, look a, look b", 1), ("take b, take a, look a, look b", 1), ("take b, look a, look b", 1),
            ("take a, take b, take c, look a, look b, look c", 3), ("take c, look a, look b, look c", 2),
            ("take a, take b, take c, take d, look a, look b, look c, look d", 6),
            ("take b, free b, look a, look b", 0), ("take b, look a, free b, look b", 1),
            ("take c, look a, free c, look b, look c", 1), ("take a, look a, look b", 0),
            ("take c, look a, look b, free c, take b, look c", 2), ("look a, look b, take a, take b", 0),
        ):
            with self.subTest(line=line):
                self.assertEqual(read(line).waste, waste)
