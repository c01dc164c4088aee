"""Contents: points 15 to 18."""

import itertools
import random

from elseput.conditions import Condition
from elseput.contents import contents, least_content, parting_content
from tests.helpers import BOUND, Case, drawn_condition

read = Condition.read


class Contents(Case):
    def test_point_15_the_marks_of_one_comparison(self):
        for sign in ("<", "<=", "==", "!=", ">=", ">"):
            self.assertEqual(list(contents(["n"], [read(f"n {sign} 5")])), [{"n": 4}, {"n": 5}, {"n": 6}])

    def test_point_15_marks_are_sorted_without_duplicates(self):
        self.assertEqual(
            [content["n"] for content in contents(["n"], [read("n < 9 and n > 5"), read("n == 6 or n != -1")])],
            [-2, -1, 0, 4, 5, 6, 7, 8, 9, 10],
        )

    def test_point_15_a_field_that_is_not_compared(self):
        self.assertEqual(list(contents(["n", "m"], [read("m == 1")])), [{"n": 0, "m": m} for m in (0, 1, 2)])

    def test_point_15_no_comparisons_at_all(self):
        zeros = [{"c": 0, "a": 0, "b": 0}]
        for conditions in ([], [Condition.always()], [Condition.never(), Condition.always()]):
            self.assertEqual(list(contents(["c", "a", "b"], conditions)), zeros)

    def test_point_15_large_numbers(self):
        self.assertEqual([content["n"] for content in contents(["n"], [Condition.compare("n", "<", BOUND)])],
                         [BOUND - 1, BOUND, BOUND + 1])

    def test_point_15_each_field_has_the_marks_of_its_own_comparisons(self):
        found = list(contents(["a", "b"], [read("a < 10 and b < 20")]))
        self.assertEqual({content["a"] for content in found}, {9, 10, 11})
        self.assertEqual({content["b"] for content in found}, {19, 20, 21})

    def test_point_16_the_last_field_changes_fastest(self):
        found = list(contents(["b", "a"], [read("a < 1"), read("b < 5")]))
        self.assertEqual([tuple(content.values()) for content in found],
                         [(4, 0), (4, 1), (4, 2), (5, 0), (5, 1), (5, 2), (6, 0), (6, 1), (6, 2)])

    def test_point_16_three_fields_in_the_given_order(self):
        conditions = [read("z == 3 or a < -1"), read("z > 4 and m >= 0")]
        expected = [dict(zip("zma", numbers))
                    for numbers in itertools.product((2, 3, 4, 5), (-1, 0, 1), (-2, -1, 0))]
        found = list(contents(("z", "m", "a"), conditions))
        self.assertEqual(found, expected)
        self.assertTrue(all(list(content) == ["z", "m", "a"] for content in found))

    def test_point_16_is_a_generator_of_dicts_that_are_not_shared(self):
        found = contents(["n"], [read("n < 1")])
        self.assertIs(iter(found), found)
        first = next(found)
        first["n"] = 77
        first["x"] = 1
        self.assertEqual(next(found), {"n": 1})

    def test_point_3_nothing_given_is_changed(self):
        fields, conditions = ["n", "m"], [read("n < 1"), read("m < 1")]
        trees = [condition.tree for condition in conditions]
        list(contents(fields, conditions))
        least_content(fields, conditions)
        self.assertEqual(fields, ["n", "m"])
        self.assertEqual([condition.tree for condition in conditions], trees)


class LeastContent(Case):
    def test_point_17_the_first_that_meets_all(self):
        for lines, content in (
            (["n < 5"], {"n": 4}), (["n >= 5"], {"n": 5}), (["n > 5"], {"n": 6}), (["n != 4"], {"n": 3}),
            (["n > 5", "n < 9"], {"n": 6}), (["n > 5 and n != 6", "n < 9"], {"n": 7}), (["always"], {"n": 0}),
            (["n == -3", "n < 0", "always"], {"n": -3}), (["n > 1 and n < 3"], {"n": 2}),
            (["n > 7 or n == 3", "n != 3"], {"n": 8}),
        ):
            with self.subTest(lines=lines):
                self.assertEqual(least_content(["n"], [read(line) for line in lines]), content)

    def test_point_17_several_fields(self):
        conditions = [read("a > 0 and b > 0"), read("a != 1 or b >= 7")]
        self.assertEqual(least_content(["a", "b"], conditions), {"a": 1, "b": 7})
        found = least_content(["b", "a"], conditions)
        self.assertEqual(list(found.items()), [("b", 1), ("a", 2)])

    def test_point_17_no_conditions(self):
        self.assertEqual(list(least_content(["m", "a"], []).items()), [("m", 0), ("a", 0)])

    def test_point_17_none_meets_all(self):
        for lines in (["never"], ["n < 5", "n >= 5"], ["n > 5 and n < 6"], ["n == 1", "n == 2"], ["always", "never"],
                      ["n < 3 or n > 9", "n >= 3", "n <= 9"]):
            with self.subTest(lines=lines):
                self.assertIsNone(least_content(["n"], [read(line) for line in lines]))
        self.assertIsNone(least_content(["a", "b"], [read("a < 1 or b < 1"), read("a > 0"), read("b > 0")]))

    def test_point_17_none_exactly_if_no_integers_meet_all(self):
        lines = [f"n {sign} {number}" for sign in ("<", "<=", "==", "!=", ">=", ">") for number in (0, 1, 3)]
        for chosen in itertools.combinations(lines, 3):
            conditions = [read(line) for line in chosen]
            some = any(all(condition({"n": n}) for condition in conditions) for n in range(-9, 12))
            found = least_content(["n"], conditions)
            self.assertEqual(found is not None, some)
            self.assertTrue(found is None or all(condition(found) for condition in conditions))


    def test_point_17_is_the_first_of_the_contents(self):
        rng = random.Random(17)
        some = 0
        for _ in range(300):
            fields = rng.sample(["n", "m", "k"], rng.randint(1, 3))
            conditions = [drawn_condition(rng, fields, most=5) for _ in range(rng.randint(0, 3))]
            meeting = [content for content in contents(fields, conditions)
                       if all(condition(content) for condition in conditions)]
            found = least_content(fields, conditions)
            self.assertEqual(found, meeting[0] if meeting else None)
            self.assertTrue(found is None or list(found) == fields)
            some += found is not None
        self.assertTrue(50 < some < 250)

    def test_points_3_and_17_what_is_given_stays_as_it_was(self):
        fields, conditions = ["n", "m"], [read("n < 3 or m > 2"), read("m == 1")]
        trees = [condition.tree for condition in conditions]
        least_content(fields, conditions)["x"] = 1
        self.assertEqual((fields, [condition.tree for condition in conditions]), (["n", "m"], trees))
        self.assertEqual(least_content(tuple(fields), tuple(conditions)), {"n": 2, "m": 1})


class PartingContent(Case):
    def test_point_18_the_first_that_parts(self):
        for first, second, content in (
            ("n < 5", "n <= 5", {"n": 5}), ("n < 5", "n < 7", {"n": 5}), ("always", "n != 5", {"n": 5}),
            ("n < 5", "never", {"n": 4}), ("n == 3", "n == 4", {"n": 3}), ("n < 0", "n > 0", {"n": -1}),
            ("always", "never", {"n": 0}), ("n >= 2", "n >= 3", {"n": 2}),
        ):
            with self.subTest(first=first, second=second):
                self.assertEqual(parting_content(["n"], read(first), read(second)), content)
                self.assertEqual(parting_content(["n"], read(second), read(first)), content)

    def test_point_18_several_fields(self):
        found = parting_content(["b", "a"], read("a > 0 and b > 0"), read("a > 0 or b > 0"))
        self.assertEqual(list(found.items()), [("b", -1), ("a", 1)])

    def test_point_18_nothing_parts(self):
        for first, second in (
            ("n < 5", "n <= 4"), ("n < 5", "not n >= 5"), ("n != 5", "n < 5 or n > 5"), ("n > 5 and n < 6", "never"),
            ("n < 5 or n > 3", "always"), ("always", "always"), ("never", "never"), ("n == 5", "n == 5"),
        ):
            with self.subTest(first=first, second=second):
                self.assertIsNone(parting_content(["n"], read(first), read(second)))
        self.assertIsNone(parting_content(["a", "b"], read("not (a < 1 and b < 1)"), read("a >= 1 or b >= 1")))

    def test_point_18_both_holding_is_no_parting(self):
        self.assertEqual(parting_content(["n"], read("n < 9"), read("n < 9 and n != 2")), {"n": 2})
