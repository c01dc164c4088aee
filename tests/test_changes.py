"""Changes: points 5 to 8 and 19 to 23."""

import itertools

from elseput.changes import Change
from elseput.errors import BadName, BadNumber, TooLarge, UnknownField
from tests.helpers import BAD_NAMES, BOUND, Case

read = Change.read
add, put = Change.adding, Change.setting


class Making(Case):
    def test_point_19_assignments(self):
        self.assertEqual(add("n", -3).assignments, (("n", "add", -3),))
        self.assertEqual(put("n", 7).assignments, (("n", "set", 7),))
        self.assertEqual(Change.none().assignments, ())
        three = add("n", 1) >> put("a", 2) >> add("m", 0)
        self.assertEqual(three.assignments, (("n", "add", 1), ("a", "set", 2), ("m", "add", 0)))
        self.assertIs(type(three.assignments), tuple)
        self.assertTrue(all(type(part) is tuple for part in three.assignments))

    def test_point_19_assigned_and_length(self):
        three = put("z", 1) >> add("b", 2) >> put("m", 3)
        self.assertEqual(three.assigned, ("z", "b", "m"))
        self.assertEqual([len(Change.none()), len(add("n", 1)), len(three)], [0, 1, 3])
        self.assertEqual(Change.none().assigned, ())

    def test_point_19_most_is_a_value_of_the_class(self):
        self.assertEqual((Change.MOST, add("n", 1).MOST), (3, 3))

    def test_making_checks_the_field_and_then_the_number(self):
        for make in (add, put):
            for name in BAD_NAMES:
                with self.subTest(name=name):
                    self.fails(BadName, {"name": name}, make, name, BOUND + 1)
            for number in (BOUND + 1, -BOUND - 1):
                self.fails(BadNumber, {"value": number}, make, "n", number)
            for number in (BOUND, -BOUND, 0):
                self.assertEqual(make("n", number).assignments[0][2], number)


class Calling(Case):
    def test_point_20_adds_and_sets(self):
        change = add("a", 5) >> put("b", 7)
        self.assertEqual(change({"a": 1, "b": 2, "c": 3}), {"a": 6, "b": 7, "c": 3})
        self.assertEqual(add("a", -5)({"a": 1}), {"a": -4})
        self.assertEqual(add("a", BOUND)({"a": BOUND}), {"a": 2 * BOUND})

    def test_point_20_keeps_the_order_of_the_keys(self):
        change = put("a", 1) >> add("c", 1)
        self.assertEqual(list(change({"c": 0, "x": 4, "a": 0, "b": 2}).items()),
                         [("c", 1), ("x", 4), ("a", 1), ("b", 2)])

    def test_points_3_and_20_the_given_content_is_untouched(self):
        content = {"b": 1, "a": 2}
        changed = (put("a", 9) >> add("b", 9))(content)
        self.assertEqual(list(content.items()), [("b", 1), ("a", 2)])
        changed["b"] = 100
        self.assertEqual(content["b"], 1)
        same = Change.none()(content)
        self.assertEqual(same, content)
        self.assertIsNot(same, content)

    def test_point_20_the_first_missing_field_in_the_order_of_the_assignments(self):
        change = put("z", 1) >> add("b", 2) >> put("m", 3)
        self.fails(UnknownField, {"name": "z"}, change, {})
        self.fails(UnknownField, {"name": "b"}, change, {"z": 1})
        self.fails(UnknownField, {"name": "m"}, change, {"z": 1, "b": 1, "x": 3})
        content = {"z": 5}
        self.fails(UnknownField, {"name": "b"}, change, content)
        self.assertEqual(content, {"z": 5})


class Joining(Case):
    def test_point_21_a_field_that_both_assign(self):
        for first, second, assignment in (
            (add("n", 2), add("n", 3), ("n", "add", 5)), (put("n", 2), add("n", 3), ("n", "set", 5)),
            (add("n", 2), put("n", 3), ("n", "set", 3)), (put("n", 2), put("n", 3), ("n", "set", 3)),
            (add("n", 2), add("n", -2), ("n", "add", 0)), (put("n", 2), add("n", -7), ("n", "set", -5)),
        ):
            with self.subTest(first=first.text(), second=second.text()):
                self.assertEqual((first >> second).assignments, (assignment,))

    def test_point_21_the_order_of_the_fields(self):
        first = put("c", 1) >> add("a", 1)
        second = add("b", 5) >> add("a", 6)
        self.assertEqual((first >> second).assignments, (("c", "set", 1), ("a", "add", 7), ("b", "add", 5)))
        self.assertEqual((second >> first).assignments, (("b", "add", 5), ("a", "add", 7), ("c", "set", 1)))
        third = add("z", 1) >> put("c", 2) >> add("y", 3)
        self.assertEqual((put("c", 9) >> third).assignments, (("c", "set", 2), ("z", "add", 1), ("y", "add", 3)))

    def test_point_21_without_assignments(self):
        change = put("c", 1) >> add("a", 1)
        self.assertEqual((change >> Change.none()).assignments, change.assignments)
        self.assertEqual((Change.none() >> change).assignments, change.assignments)
        self.assertEqual((Change.none() >> Change.none()).assignments, ())

    def test_point_21_three_fields_and_four(self):
        three = add("a", 1) >> add("b", 1) >> add("c", 1)
        self.assertEqual(len(three >> three), 3)
        self.assertEqual(len(three >> put("b", 1)), 3)
        self.fails(TooLarge, {"most": 3}, lambda: three >> add("d", 1))
        self.fails(TooLarge, {"most": 3}, lambda: add("d", 1) >> three)
        self.fails(TooLarge, {"most": 3}, lambda: (add("a", 1) >> add("b", 1)) >> (add("c", 1) >> add("d", 1)))

    def test_points_5_and_21_sums_are_not_bounded(self):
        self.assertEqual((add("n", BOUND) >> add("n", BOUND)).assignments, (("n", "add", 2 * BOUND),))
        self.assertEqual((put("n", -BOUND) >> add("n", -BOUND)).assignments, (("n", "set", -2 * BOUND),))

    def test_points_3_and_21_the_parts_are_unchanged(self):
        first, second = put("a", 1), add("a", 2)
        joined = first >> second
        self.assertEqual((first.assignments, second.assignments), ((("a", "set", 1),), (("a", "add", 2),)))
        self.assertIsNot(joined, first)

    def test_point_21_is_the_change_that_makes_both(self):
        parts = [part for field in "ab" for part in (add(field, 2), put(field, 5), add(field, -9))]
        pairs = [first >> second for first, second in itertools.product(parts, repeat=2)]
        for first, second in itertools.product(pairs, repeat=2):
            for content in ({"a": 0, "b": 7}, {"a": -5, "b": 1}):
                self.assertEqual((first >> second)(content), second(first(content)))


class Repeating(Case):
    def test_point_22_adds_are_multiplied_and_sets_stay(self):
        change = add("a", 3) >> put("b", 4) >> add("c", -1)
        expected = (("a", "add", 15), ("b", "set", 4), ("c", "add", -5))
        self.assertEqual((change * 5).assignments, expected)
        self.assertEqual((5 * change).assignments, expected)
        self.assertEqual((change * 1).assignments, change.assignments)
        self.assertEqual((1 * change).assignments, change.assignments)

    def test_point_22_no_times(self):
        change = add("a", 3) >> put("b", 4)
        self.assertEqual((change * 0).assignments, ())
        self.assertEqual((0 * change).assignments, ())

    def test_point_22_the_bounds(self):
        change = add("a", 3)
        self.assertEqual((change * 1000).assignments, (("a", "add", 3000),))
        self.assertEqual((1000 * change).assignments, (("a", "add", 3000),))
        for times in (-1, 1001, -1000, BOUND):
            with self.subTest(times=times):
                self.fails(BadNumber, {"value": times}, lambda: change * times)
                self.fails(BadNumber, {"value": times}, lambda: times * change)
                self.fails(BadNumber, {"value": times}, lambda: Change.none() * times)

    def test_points_3_and_22_the_change_is_unchanged(self):
        change = add("a", 3)
        self.assertIsNot(change * 1, change)
        self.assertEqual((change * 7).assignments, (("a", "add", 21),))
        self.assertEqual(change.assignments, (("a", "add", 3),))

    def test_point_22_is_the_change_made_that_often(self):
        for change in (add("a", 3) >> put("b", 4), put("a", -1) >> add("b", 2), Change.none()):
            whole = Change.none()
            for times in range(6):
                self.assertEqual((change * times).assignments, whole.assignments)
                whole = whole >> change


class Texts(Case):
    def test_point_23_texts(self):
        self.assertEqual(Change.none().text(), "")
        self.assertEqual(add("n", 5).text(), "add n 5")
        self.assertEqual(put("n", -5).text(), "set n -5")
        self.assertEqual((put("n", 0) >> add("a", -1) >> add("b", BOUND)).text(),
                         "set n 0, add a -1, add b 1" + "0" * 30)

    def test_point_23_reading(self):
        for line, assignments in (
            ("", ()), ("   ", ()), ("add n 1", (("n", "add", 1),)), ("set n -1", (("n", "set", -1),)),
            ("add n 1,set a 2", (("n", "add", 1), ("a", "set", 2))),
            ("add n1, add m-2", (("n", "add", 1), ("m", "add", -2))),
            ("  set z 1 , add b 0 ,set a 9 ", (("z", "set", 1), ("b", "add", 0), ("a", "set", 9))),
        ):
            with self.subTest(line=line):
                self.assertEqual(read(line).assignments, assignments)

    def test_point_23_fields_that_stand_twice(self):
        for line, text in (
            ("add n 1, add n 2", "add n 3"), ("set n 1, add n 2", "set n 3"), ("add n 1, set n 2", "set n 2"),
            ("set n 1, set n 2", "set n 2"), ("add n 1, add m 1, add n 1", "add n 2, add m 1"),
            ("add a 1, add b 1, add c 1, set b 5, add a 1", "add a 2, set b 5, add c 1"),
            ("set n 1, add n 2, add n 3", "set n 6"),
        ):
            with self.subTest(line=line):
                self.assertEqual(read(line).text(), text)

    def test_point_23_a_text_is_read_back(self):
        for text in ("", "add n 5", "set b -1, add a 0, set c 7"):
            self.assertEqual(read(text).text(), text)

    def test_point_23_too_many_fields(self):
        self.fails(TooLarge, {"most": 3}, read, "add a 1, add b 1, add c 1, set d 1")
        self.fails(TooLarge, {"most": 3}, read, "add a 1, add b 1, add c 1, set d 1, add a 1")

    def test_point_8_bad_text_comes_before_too_large(self):
        four = "add a 1, add b 1, add c 1, add d 1"
        self.bad_column(read, four + ",", len(four) + 2)
        self.bad_column(read, four + " add", len(four) + 2)

    def test_point_7_a_token_that_does_not_fit(self):
        for line, column in (
            ("n", 1), ("change n 1", 1), ("add add 1", 5), ("add n n", 7), ("add n 01", 7), ("add n -0", 7),
            ("add n 1 2", 9), ("add n 1 add m 1", 9), ("add n 1; add m 1", 8), ("add n 1,, add m 1", 9),
            (", add n 1", 1), ("add n 1, m 1", 10), ("add n, 1", 6), ("add n == 1", 7), ("tell n 1", 1),
            ("add abcdefghijklm 1", 5), ("set n " + str(BOUND + 1), 7), ("add 1 n", 5), ("add n 1)", 8),
        ):
            self.bad_column(read, line, column)

    def test_point_7_a_line_that_ends_too_early(self):
        for line in ("add", "set ", "add n", "add n ", "add n 1,", "add n 1 , ", "add n 1, add", "add n 1, add m"):
            self.bad_column(read, line, len(line) + 1)

    def test_point_7_a_strange_character_comes_first(self):
        for line, column in (("n n n ?", 7), ("add n 1\n", 8), ("\n", 1), ("add n -", 7), ("add n 1, ,A", 11)):
            self.bad_column(read, line, column)
