"""What parts two shapes: point 28."""

import itertools

from elseput.shapes import Shape, parting_row
from tests.helpers import BOUND, Case


def shape(rest, arms="a change"):
    return Shape.read(f"s: {arms}; {rest}")


def row(first, second, fields=("n",)):
    return parting_row(fields, shape(first), shape(second))


class PartingRow(Case):
    def test_other_arms(self):
        first = shape("add n 1", "a change, b tell")
        for arms in ("b tell, a change", "a change", "a change, b refuse", "a change, c tell", "a change, b change",
                     "a change, b tell, c tell"):
            with self.subTest(arms=arms):
                self.assertEqual(parting_row(["n"], first, shape("add n 1", arms)), {})
                self.assertEqual(parting_row(["n"], shape("add n 5", arms), first), {})

    def test_arms_without_change(self):
        tell = Shape.read("s: a tell, b refuse")
        self.assertIsNone(parting_row(["n", "m"], tell, Shape.read("t: a tell, b refuse")))
        self.assertEqual(parting_row(["n"], tell, Shape.read("t: b refuse, a tell")), {})

    def test_equal_shapes(self):
        for rest in ("add n 1", "set n 5", "when n < 5; add n 1", "when never; set n 1"):
            self.assertIsNone(row(rest, rest))
        self.assertIsNone(parting_row(["n"], Shape.read("s: a change; add n 1"), Shape.read("t: a change; add n 1")))

    def test_shapes_of_the_same_effect(self):
        for first, second in (
            ("when n < 5; add n 1", "when n <= 4; add n 1"), ("add n 0", "when never; add n 1"),
            ("when n > 5 and n < 6; set n 1", "when never; add n 1"), ("when n == 3; set n 3", "when never; set n 9"),
            ("when n == 3; set n 5", "when n == 3; add n 2"), ("when n != 3; set n 3", "set n 3"),
            ("when n < 5 or n >= 5; add n 1", "add n 1"), ("when n > 2; add n 0", "when n > 7; add n 0"),
            ("when n == 3; set n 5", "when n > 2 and n < 4; add n 2"), ("when n == 0; set n 0", "add n 0"),
        ):
            with self.subTest(first=first, second=second):
                self.assertIsNone(row(first, second))
                self.assertIsNone(row(second, first))

    def test_a_shape_that_changes_nothing_and_one_that_never_holds(self):
        self.assertIsNone(row("add n 0", "when never; set n 5"))
        self.assertIsNone(row("add n 0, add m 0", "when n < 3 and n > 3; set n 5", ("m", "n")))
        self.assertEqual(row("set n 0", "when never; set n 5"), {"n": -1})

    def test_the_first_content_that_parts(self):
        for first, second, content in (
            ("add n 1", "add n 2", {"n": 0}), ("add n 1", "when n < 5; add n 1", {"n": 5}),
            ("when n <= 5; add n 1", "when n < 5; add n 1", {"n": 5}), ("set n 4", "set n 5", {"n": 3}),
            ("set n 5", "when n != 5; set n 6", {"n": 4}), ("add n 1", "when never; add n 1", {"n": 0}),
            ("when n > 2; add n 1", "when n > 4; add n 1", {"n": 3}),
        ):
            with self.subTest(first=first, second=second):
                self.assertEqual(row(first, second), content)
                self.assertEqual(row(second, first), content)

    def test_add_against_set(self):
        # Compared with 7 and with 7 - 3: the marks are 3 to 5 and 6 to 8, and only 4 does not part.
        self.assertEqual(row("set n 7", "add n 3"), {"n": 3})
        self.assertEqual(row("when n == 4; set n 7", "add n 3"), {"n": 3})
        self.assertEqual(row("when n > 3; set n 7", "when n > 3; add n 3"), {"n": 5})
        self.assertEqual(row("set n 7", "add n -20"), {"n": 6})
        self.assertEqual(row("when n > 7; set n 7", "when n > 7; add n -20"), {"n": 8})
        self.assertEqual(row("when n > 8; set n 7", "when n > 8; add n -2"), {"n": 10})

    def test_a_field_that_is_set_is_compared_with_its_number(self):
        self.assertEqual(row("set n 7", "when never; add n 1"), {"n": 5})
        self.assertEqual(row("add m 0", "add m 0, set n 7", ("m", "n")), {"m": 0, "n": 6})
        self.assertEqual(row("when n >= 7; set n 7", "when never; add n 1"), {"n": 8})
        self.assertEqual(row("when n >= 7; add m 1", "when n >= 7; set m 0", ("m", "n")), {"m": -2, "n": 7})

    def test_an_added_number_counts_only_for_its_own_field(self):
        self.assertEqual(row("set n 7", "add m 3", ("m", "n")), {"m": 0, "n": 6})
        self.assertEqual(row("add m 3", "set n 7", ("m", "n")), {"m": 0, "n": 6})
        self.assertEqual(row("set n 7, add m 3", "add m 3, add n 0", ("m", "n")), {"m": 0, "n": 6})

    def test_a_field_that_both_set_is_compared_with_both_numbers(self):
        self.assertEqual(row("set n 4", "set n 9"), {"n": 3})
        self.assertEqual(row("set n 9", "set n -4"), {"n": -5})
        self.assertEqual(row("when n >= 4; set n 4", "when n >= 4; set n 9"), {"n": 4})

    def test_the_order_of_the_fields(self):
        found = row("add b 1", "when a < 5 and b < 7; add b 1", ("b", "a"))
        self.assertEqual(list(found.items()), [("b", 6), ("a", 5)])
        found = row("add b 1", "when a < 5 and b < 7; add b 1", ("a", "b"))
        self.assertEqual(list(found.items()), [("a", 4), ("b", 7)])

    def test_large_numbers(self):
        high, low = BOUND, -BOUND
        self.assertEqual(row(f"set n {low}", f"add n {high}"), {"n": low - high - 1})
        self.assertIsNone(row(f"when n == 0; set n {high}", f"when n == 0; add n {high}"))
        self.assertEqual(row(f"set n {high}, add n {high}", f"add n {low}"), {"n": 2 * high - 1})

    def test_points_3_and_28_the_found_content_is_not_shared(self):
        first, second = shape("add n 1"), shape("add n 2")
        parting_row(["n"], first, second)["n"] = 9
        self.assertEqual(parting_row(["n"], first, second), {"n": 0})
        parting_row(["n"], first, Shape.read("s: a tell"))["x"] = 9
        self.assertEqual(parting_row(["n"], first, Shape.read("s: a tell")), {})

    def test_none_exactly_if_no_content_parts(self):
        conditions = ("", "when n < 2; ", "when n == 1; ", "when n != 1; ", "when n > 0 and n < 2; ", "when never; ")
        changes = ("add n 0", "add n 1", "set n 1", "set n 2", "set n 1, add m 1", "add n 1, set m 0", "add m 0")
        shapes = [shape(condition + change) for condition in conditions for change in changes]
        rows = [{"m": m, "n": n} for m in (-2, -1, 0, 1) for n in range(-4, 6)]
        effects = [[changed(one, content) for content in rows] for one in shapes]
        for first, second in itertools.product(range(len(shapes)), repeat=2):
            found = parting_row(["m", "n"], shapes[first], shapes[second])
            with self.subTest(first=shapes[first].text(), second=shapes[second].text()):
                self.assertEqual(found is None, effects[first] == effects[second])
                if found is not None:
                    self.assertNotEqual(changed(shapes[first], found), changed(shapes[second], found))


def changed(one, content):
    return one.change(content) if one.condition(content) else content
