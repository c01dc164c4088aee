"""Tables: points 34 to 36."""

from elseput.errors import BadRow, NoRow, Taken, UnknownField, UnknownKey
from elseput.tables import Table
from tests.helpers import BOUND, Case


def content(n=0, m=0):
    return {"n": n, "m": m}


class Adding(Case):
    def setUp(self):
        self.table = Table(["b", "a", "c"], ["n", "m"])

    def fails_unchanged(self, kind, fields, call, *given):
        rows = self.table.rows()
        self.fails(kind, fields, call, *given)
        self.assertEqual(self.table.rows(), rows)
        self.assertEqual(len(self.table), len(rows))

    def test_point_34_a_new_table_has_no_rows(self):
        self.assertEqual((len(self.table), self.table.rows()), (0, []))

    def test_point_34_names_are_not_checked(self):
        table = Table(("A key", "add"), ("not",))
        self.assertEqual(table.put({"add": 1}, {"not": 2}), 0)
        self.assertEqual(table.rows(), [({"add": 1}, {"not": 2})])

    def test_point_35_rows_are_numbered_from_0(self):
        self.assertEqual(self.table.put({"a": 1}, content()), 0)
        self.assertEqual(self.table.enter({"a": 1}, content()), 1)
        self.assertEqual(self.table.put({"b": 1}, content()), 2)
        self.assertEqual(len(self.table), 3)

    def test_point_35_rows_keep_the_order_of_the_table(self):
        for add in (self.table.put, self.table.enter):
            add({"c": len(self.table), "b": len(self.table) + 9}, {"m": 3, "n": 4})
        for places, row in self.table.rows():
            self.assertEqual(list(places), ["b", "c"])
            self.assertEqual(list(row.items()), [("n", 4), ("m", 3)])
        self.assertEqual(list(self.table.content_of(0)), ["n", "m"])

    def test_point_35_bad_rows(self):
        for add in (self.table.put, self.table.enter):
            for places, row in (
                ({}, content()), ({"z": 1}, content()), ({"a": 1, "z": 1}, content()), ({"n": 1}, content()),
                ({"a": 1}, {}), ({"a": 1}, {"n": 1}), ({"a": 1}, {"n": 1, "m": 2, "k": 3}),
                ({"a": 1}, {"n": 1, "k": 2}),
                ({"a": 1}, {"n": 1, "m": 1, "a": 1}),
            ):
                with self.subTest(places=places, row=row):
                    self.fails_unchanged(BadRow, {}, add, places, row)
            self.assertIsNone(self.table["a", 1])

    def test_point_35_bad_row_comes_before_taken(self):
        self.table.put({"a": 1}, content())
        self.fails_unchanged(BadRow, {}, self.table.put, {"a": 1, "z": 2}, content())
        self.fails_unchanged(BadRow, {}, self.table.put, {"a": 1}, {"n": 1})
        self.fails_unchanged(Taken, {"key": "a", "row": 0}, self.table.put, {"a": 1}, content())

    def test_point_35_taken_names_the_first_key_in_the_order_of_the_table(self):
        self.table.put({"a": 1, "c": 3}, content())
        self.table.put({"b": 2}, content())
        self.fails_unchanged(Taken, {"key": "b", "row": 1}, self.table.put, {"a": 1, "b": 2}, content())
        self.fails_unchanged(Taken, {"key": "b", "row": 1}, self.table.put, {"c": 3, "a": 1, "b": 2}, content())
        self.fails_unchanged(Taken, {"key": "a", "row": 0}, self.table.put, {"c": 3, "a": 1, "b": 9}, content())
        self.fails_unchanged(Taken, {"key": "c", "row": 0}, self.table.put, {"c": 3, "a": 9, "b": 9}, content())

    def test_point_35_taken_names_the_least_row(self):
        self.table.enter({"a": 7}, content())
        self.table.enter({"a": 5}, content())
        self.table.enter({"a": 5, "b": 5}, content())
        self.table.enter({"a": 5}, content())
        self.fails_unchanged(Taken, {"key": "a", "row": 1}, self.table.put, {"a": 5}, content())
        self.fails_unchanged(Taken, {"key": "b", "row": 2}, self.table.put, {"b": 5}, content())

    def test_point_35_the_same_value_under_another_key_is_not_taken(self):
        self.table.put({"a": 5}, content())
        self.assertEqual(self.table.put({"b": 5}, content()), 1)
        self.assertEqual(self.table.put({"c": 5, "a": 6}, content()), 2)

    def test_point_35_after_an_error_the_values_are_still_free(self):
        self.table.put({"a": 1}, content())
        self.fails_unchanged(Taken, {"key": "a", "row": 0}, self.table.put, {"a": 1, "b": 2, "c": 3}, content())
        self.assertIsNone(self.table["b", 2])
        self.assertEqual(self.table.put({"b": 2, "c": 3}, content()), 1)

    def test_point_35_enter_does_not_raise_taken(self):
        self.table.put({"a": 1, "b": 1}, content(1))
        self.assertEqual(self.table.enter({"a": 1, "b": 1}, content(2)), 1)
        self.assertEqual(self.table.rows(), [({"b": 1, "a": 1}, content(1)), ({"b": 1, "a": 1}, content(2))])

    def test_points_3_and_35_what_is_given_is_copied(self):
        places, row = {"a": 1}, {"m": 2, "n": 1}
        self.table.put(places, row)
        self.table.enter(places, row)
        self.assertEqual((list(places.items()), list(row.items())), ([("a", 1)], [("m", 2), ("n", 1)]))
        places["b"] = 3
        row["n"] = 77
        self.assertEqual(self.table.rows(), [({"a": 1}, content(1, 2))] * 2)
        self.assertIsNone(self.table["b", 3])

    def test_points_3_and_34_the_names_are_copied(self):
        keys, fields = ["a"], ["n"]
        table = Table(keys, fields)
        keys.append("b")
        fields.append("m")
        self.assertEqual(table.put({"a": 1}, {"n": 1}), 0)
        self.fails(BadRow, {}, table.put, {"b": 1}, {"n": 1})

    def test_points_5_and_34_numbers_are_not_bounded(self):
        large = BOUND * 1000
        self.table.put({"a": large}, content(large, -large))
        self.assertEqual(self.table["a", large], 0)
        self.table.write(0, "n", -large)
        self.assertEqual(self.table.content_of(0), content(-large, -large))


class Asking(Case):
    def setUp(self):
        self.table = Table(["b", "a"], ["n", "m"])
        self.table.enter({"a": 1}, content(1, 2))
        self.table.enter({"b": 1, "a": 2}, content(3, 4))
        self.table.enter({"a": 2}, content(5, 6))
        self.table.enter({"b": 0}, content(7, 8))

    def test_point_36_finding(self):
        for key, value, row in (("a", 1, 0), ("b", 1, 1), ("a", 2, 1), ("b", 0, 3), ("a", 0, None), ("b", 2, None),
                                ("a", 3, None), ("a", -1, None)):
            with self.subTest(key=key, value=value):
                self.assertEqual(self.table[key, value], row)
        self.assertIs(type(self.table["a", 1]), int)

    def test_point_36_finding_under_an_unknown_key(self):
        for key in ("c", "n", ""):
            self.fails(UnknownKey, {"name": key}, lambda: self.table[key, 1])

    def test_point_36_content_of(self):
        self.assertEqual([self.table.content_of(row) for row in range(4)],
                         [content(1, 2), content(3, 4), content(5, 6), content(7, 8)])

    def test_point_36_no_row(self):
        for row in (-1, 4, 5, -4, 100):
            with self.subTest(row=row):
                self.fails(NoRow, {"row": row}, self.table.content_of, row)
                self.fails(NoRow, {"row": row}, self.table.write, row, "n", 1)
                self.fails(NoRow, {"row": row}, self.table.write, row, "z", 1)
        self.fails(NoRow, {"row": 0}, Table(["a"], ["n"]).content_of, 0)

    def test_point_36_write(self):
        self.assertIsNone(self.table.write(1, "m", 9))
        self.assertEqual(self.table.content_of(1), content(3, 9))
        self.table.write(3, "n", -9)
        self.assertEqual([row for _, row in self.table.rows()],
                         [content(1, 2), content(3, 9), content(5, 6), content(-9, 8)])
        self.assertEqual(list(self.table.content_of(3)), ["n", "m"])

    def test_point_36_write_to_an_unknown_field(self):
        rows = self.table.rows()
        for field in ("z", "a", ""):
            self.fails(UnknownField, {"name": field}, self.table.write, 0, field, 1)
        self.assertEqual(self.table.rows(), rows)

    def test_points_3_and_36_what_is_returned_is_a_copy(self):
        expected = [({"a": 1}, content(1, 2)), ({"b": 1, "a": 2}, content(3, 4)), ({"a": 2}, content(5, 6)),
                    ({"b": 0}, content(7, 8))]
        rows = self.table.rows()
        self.assertEqual(rows, expected)
        self.assertTrue(all(type(row) is tuple for row in rows))
        rows[0][0]["b"] = 44
        rows[0][1]["n"] = 44
        rows.pop()
        self.table.content_of(0)["n"] = 55
        self.assertEqual(self.table.rows(), expected)
        self.assertIsNone(self.table["b", 44])

    def test_point_36_length(self):
        self.assertEqual(len(self.table), 4)

    def test_point_36_a_twin_shares_nothing(self):
        rows = self.table.rows()
        twin = self.table.twin()
        self.assertIs(type(twin), Table)
        self.assertEqual((twin.rows(), len(twin)), (rows, 4))
        self.assertEqual([list(places) for places, _ in twin.rows()], [list(places) for places, _ in rows])
        self.assertEqual((twin["a", 2], twin["b", 0], twin["a", 9]), (1, 3, None))
        twin.write(0, "n", 99)
        twin.put({"a": 9}, content())
        self.assertEqual(self.table.rows(), rows)
        self.assertIsNone(self.table["a", 9])
        self.table.write(1, "n", 88)
        self.table.put({"b": 9}, content())
        self.assertEqual(twin.content_of(1), content(3, 4))
        self.assertIsNone(twin["b", 9])
        self.assertEqual((len(self.table), len(twin)), (5, 5))

    def test_point_36_a_twin_has_the_same_keys_and_fields(self):
        twin = Table(["b", "a"], ["n", "m"]).twin()
        self.assertEqual(len(twin), 0)
        self.assertIsNone(twin["a", 1])
        self.fails(UnknownKey, {"name": "c"}, lambda: twin["c", 1])
        self.fails(BadRow, {}, twin.put, {"a": 1}, {"n": 1})
        twin.put({"a": 1, "b": 2}, {"m": 1, "n": 2})
        self.assertEqual([list(part) for part in twin.rows()[0]], [["b", "a"], ["n", "m"]])
