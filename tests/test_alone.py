"""One statement alone: points 37 to 40."""

from elseput.alone import answer, demand, run_batch
from elseput.books import Book
from elseput.errors import BadRow, BatchRefused, Refused, Taken, UnknownShape
from elseput.tables import Table
from tests.helpers import BOUND, Case

BOOK = """keys a b c
fields n m
visit: b change, a change; when n < 5; add m 1
both: a change; add m 2, set n 9
seen: a tell, c tell
new: c refuse, a refuse
mixed: a tell, b refuse, c change; when m == 0; set m 7
any: c change; add n 0"""


def statement(name, n=0, m=0, **places):
    return (name, places, {"n": n, "m": m})


class Alone(Case):
    def setUp(self):
        self.book = Book.read(BOOK)
        self.table = Table(["a", "b", "c"], ["n", "m"])

    def fill(self, *rows):
        for places, n, m in rows:
            self.table.enter(places, {"n": n, "m": m})

    def numbers(self):
        return [(content["n"], content["m"]) for _, content in self.table.rows()]

    def fails_unchanged(self, kind, fields, call, *given):
        rows = self.table.rows()
        self.fails(kind, fields, call, *given)
        self.assertEqual(self.table.rows(), rows)
        self.assertEqual(len(self.table), len(rows))


class Checks(Alone):
    def test_point_37_an_unknown_shape(self):
        for call in (answer, demand):
            self.fails_unchanged(UnknownShape, {"name": "nix"}, call, self.book, self.table, statement("nix", a=1))

    def test_point_37_an_unknown_shape_comes_before_a_bad_row(self):
        for call in (answer, demand):
            for places, content in (({}, {}), ({"z": 1}, {"n": 1}), ({"a": 1}, {"n": 1, "m": 1, "z": 1})):
                self.fails_unchanged(UnknownShape, {"name": "visi"}, call, self.book, self.table,
                                     ("visi", places, content))

    def test_point_37_bad_rows(self):
        good, row = {"a": 1, "b": 1}, {"n": 0, "m": 0}
        self.fill(({"a": 1, "b": 1}, 0, 0))
        for call in (answer, demand):
            for places, content in (
                ({"a": 1}, row), ({"b": 1}, row), ({}, row), ({"a": 1, "b": 1, "c": 1}, row),
                ({"a": 1, "c": 1}, row), ({"a": 1, "b": 1, "n": 1}, row),
                (good, {"n": 0}), (good, {}), (good, {"n": 0, "m": 0, "k": 0}), (good, {"n": 0, "k": 0}),
                (good, {"n": 0, "m": 0, "a": 0}), ({}, {}),
            ):
                with self.subTest(places=places, content=content):
                    self.fails_unchanged(BadRow, {}, call, self.book, self.table, ("visit", places, content))

    def test_point_37_the_order_of_the_names_does_not_matter(self):
        outcome = answer(self.book, self.table, ("visit", {"a": 1, "b": 2}, {"m": 3, "n": 4}))
        self.assertEqual(outcome, ("put", 0, (4, 3)))
        outcome = answer(self.book, self.table, ("visit", {"b": 3, "a": 4}, {"n": 5, "m": 6}))
        self.assertEqual(outcome, ("put", 1, (5, 6)))


class Answers(Alone):
    def test_point_38_put(self):
        for call in (answer, demand):
            for name, places in (("visit", {"a": 1, "b": 2}), ("new", {"a": 2, "c": 1}), ("seen", {"a": 3, "c": 2}),
                                 ("mixed", {"a": 4, "b": 1, "c": 3})):
                row = len(self.table)
                given = {key: value + 10 * row for key, value in places.items()}
                outcome = call(self.book, self.table, (name, given, {"n": row, "m": -1}))
                self.assertEqual(outcome, ("put", row, (row, -1)))
                self.assertEqual(self.table.rows()[row], (given, {"n": row, "m": -1}))

    def test_point_38_put_tells_the_statement_as_it_is_given(self):
        outcome = answer(self.book, self.table, statement("visit", 8, 9, a=1, b=1))
        self.assertEqual(outcome, ("put", 0, (8, 9)))
        self.assertEqual(self.numbers(), [(8, 9)])

    def test_point_38_changed(self):
        self.fill(({"a": 1}, 7, 7), ({"a": 2}, 4, 5), ({"a": 3}, 0, 0))
        outcome = answer(self.book, self.table, statement("visit", 50, 60, a=2, b=2))
        self.assertEqual(outcome, ("changed", 1, (4, 6)))
        self.assertEqual(self.numbers(), [(7, 7), (4, 6), (0, 0)])
        self.assertEqual(answer(self.book, self.table, statement("both", a=3)), ("changed", 2, (9, 2)))
        self.assertEqual(self.numbers(), [(7, 7), (4, 6), (9, 2)])

    def test_point_38_a_change_keeps_the_places(self):
        self.fill(({"a": 2, "c": 5}, 4, 5))
        answer(self.book, self.table, statement("visit", a=2, b=2))
        self.assertEqual(self.table.rows(), [({"a": 2, "c": 5}, {"n": 4, "m": 6})])
        self.assertIsNone(self.table["b", 2])

    def test_point_38_a_change_that_leaves_the_numbers_as_they_are(self):
        self.fill(({"c": 1}, 3, 4))
        self.assertEqual(answer(self.book, self.table, statement("any", c=1)), ("changed", 0, (3, 4)))

    def test_point_38_passed(self):
        self.fill(({"a": 1}, 5, 3))
        for call in (answer, demand):
            self.assertEqual(call(self.book, self.table, statement("visit", a=1, b=1)), ("passed", 0, None))
        self.assertEqual(self.numbers(), [(5, 3)])
        self.assertEqual(len(self.table), 1)

    def test_point_38_the_condition_is_asked_of_the_row_and_not_of_the_statement(self):
        self.fill(({"a": 1}, 5, 3), ({"a": 2}, 4, 3))
        self.assertEqual(answer(self.book, self.table, statement("visit", 0, 0, a=1, b=1))[0], "passed")
        self.assertEqual(answer(self.book, self.table, statement("visit", 9, 9, a=2, b=1))[0], "changed")

    def test_point_38_told(self):
        self.fill(({"a": 1}, 5, 3), ({"c": 4}, 8, -2))
        for call in (answer, demand):
            self.assertEqual(call(self.book, self.table, statement("seen", 1, 1, a=9, c=4)), ("told", 1, (8, -2)))
            self.assertEqual(call(self.book, self.table, statement("seen", 1, 1, a=1, c=4)), ("told", 0, (5, 3)))
        self.assertEqual(self.numbers(), [(5, 3), (8, -2)])

    def test_point_38_refused(self):
        self.fill(({"a": 1}, 5, 3), ({"c": 4}, 8, -2))
        self.assertEqual(answer(self.book, self.table, statement("new", a=1, c=1)), ("refused", 0, None))
        self.assertEqual(answer(self.book, self.table, statement("new", a=1, c=4)), ("refused", 1, None))
        self.assertEqual(self.numbers(), [(5, 3), (8, -2)])

    def test_point_38_the_first_taken_key_in_the_order_of_the_arms_decides(self):
        self.fill(({"a": 1}, 0, 0), ({"b": 1}, 1, 10), ({"c": 1}, 2, 0))
        self.assertEqual(answer(self.book, self.table, statement("visit", a=1, b=1)), ("changed", 1, (1, 11)))
        self.assertEqual(answer(self.book, self.table, statement("visit", a=1, b=2)), ("changed", 0, (0, 1)))
        self.assertEqual(answer(self.book, self.table, statement("mixed", a=1, b=1, c=1)), ("told", 0, (0, 1)))
        self.assertEqual(answer(self.book, self.table, statement("mixed", a=2, b=1, c=1)), ("refused", 1, None))
        self.assertEqual(answer(self.book, self.table, statement("mixed", a=2, b=2, c=1)), ("changed", 2, (2, 7)))
        self.assertEqual(answer(self.book, self.table, statement("mixed", a=2, b=2, c=1)), ("passed", 2, None))
        self.assertEqual(len(self.table), 3)

    def test_point_38_the_least_row_of_several_with_one_value(self):
        self.fill(({"a": 9}, 0, 0), ({"a": 1}, 1, 0), ({"a": 1, "b": 1}, 2, 0), ({"b": 1}, 3, 0))
        self.assertEqual(answer(self.book, self.table, statement("seen", a=1, c=1)), ("told", 1, (1, 0)))
        self.assertEqual(answer(self.book, self.table, statement("visit", a=1, b=1)), ("changed", 2, (2, 1)))
        self.fails(Refused, {"key": "a", "row": 1}, demand, self.book, self.table, statement("new", a=1, c=1))

    def test_point_38_only_values_under_carried_keys_count(self):
        self.fill(({"b": 1, "c": 1}, 0, 0))
        self.assertEqual(answer(self.book, self.table, statement("both", a=1)), ("put", 1, (0, 0)))

    def test_points_5_and_38_computed_numbers_may_be_great(self):
        self.fill(({"a": 1}, -BOUND, BOUND * 10))
        self.assertEqual(answer(self.book, self.table, statement("visit", a=1, b=1)),
                         ("changed", 0, (-BOUND, BOUND * 10 + 1)))

    def test_points_3_and_38_the_book_and_the_statement_stay_as_they_were(self):
        self.fill(({"a": 1}, 0, 0))
        for call in (answer, demand, run_batch):
            free = 10 * len(self.table)
            for places in ({"a": 1, "b": 1}, {"b": free, "a": free + 1}):
                content = {"m": 3, "n": 0}
                given = dict(places)
                call(self.book, self.table, ("visit", given, content))
                self.assertEqual((given, content), (places, {"m": 3, "n": 0}))
                self.assertEqual((list(given), list(content)), (list(places), ["m", "n"]))
        self.assertEqual(self.book.text(), BOOK)

    def test_points_3_and_38_the_row_that_is_put_is_a_copy(self):
        places, content = {"a": 1, "b": 1}, {"n": 1, "m": 1}
        answer(self.book, self.table, ("visit", places, content))
        places["a"], content["n"] = 5, 5
        self.assertEqual(self.table.rows(), [({"a": 1, "b": 1}, {"n": 1, "m": 1})])
        self.assertIsNone(self.table["a", 5])


class Demands(Alone):
    def test_point_39_refused_from_taken(self):
        self.fill(({"a": 1}, 5, 3), ({"c": 4}, 8, -2))
        for places, key, row in (({"a": 1, "c": 1}, "a", 0), ({"a": 1, "c": 4}, "c", 1), ({"a": 3, "c": 4}, "c", 1)):
            with self.subTest(places=places), self.assertRaises(Refused) as caught:
                demand(self.book, self.table, ("new", places, {"n": 0, "m": 0}))
            cause = caught.exception.__cause__
            self.assertIs(type(cause), Taken)
            self.assertEqual((caught.exception.key, caught.exception.row), (key, row))
            self.assertEqual((cause.key, cause.row), (key, row))
        self.assertEqual(self.numbers(), [(5, 3), (8, -2)])

    def test_point_39_changed(self):
        self.fill(({"a": 1}, 4, 3))
        self.assertEqual(demand(self.book, self.table, statement("visit", a=1, b=1)), ("changed", 0, (4, 4)))
        self.assertEqual(self.numbers(), [(4, 4)])


class Batches(Alone):
    BAD = (
        (("nix", {"a": 1}, {"n": 0, "m": 0}), UnknownShape, {"name": "nix"}),
        (("visit", {"a": 1}, {"n": 0, "m": 0}), BadRow, {}),
        (("visit", {"a": 1, "b": 1}, {"n": 0}), BadRow, {}),
        (("new", {"a": 1, "c": 77}, {"n": 0, "m": 0}), Refused, {"key": "a", "row": 0}),
    )

    def setUp(self):
        super().setUp()
        self.fill(({"a": 1}, 0, 0), ({"a": 2}, 0, 0))

    def refused(self, index, kind, fields, *statements):
        rows = self.table.rows()
        with self.assertRaises(BatchRefused) as caught:
            run_batch(self.book, self.table, *statements)
        self.assertIs(type(caught.exception), BatchRefused)
        self.assertEqual(caught.exception.index, index)
        cause = caught.exception.__cause__
        self.assertIs(type(cause), kind)
        self.assertEqual({name: getattr(cause, name) for name in fields}, fields)
        self.assertEqual(self.table.rows(), rows)
        return cause

    def test_point_40_no_statements(self):
        self.assertEqual(run_batch(self.book, self.table), [])
        self.assertEqual(len(self.table), 2)

    def test_point_40_one_after_another(self):
        outcomes = run_batch(
            self.book, self.table,
            statement("visit", a=1, b=1), statement("visit", 1, 1, a=3, b=3), statement("visit", a=3, b=1),
            statement("seen", a=3, c=1), statement("new", a=4, c=4), statement("both", a=1),
            statement("visit", a=1, b=1),
        )
        self.assertEqual(outcomes, [
            ("changed", 0, (0, 1)), ("put", 2, (1, 1)), ("changed", 2, (1, 2)), ("told", 2, (1, 2)), ("put", 3, (0, 0)),
            ("changed", 0, (9, 3)), ("passed", 0, None),
        ])
        self.assertEqual(self.numbers(), [(9, 3), (0, 0), (1, 2), (0, 0)])
        self.assertEqual((self.table["b", 3], self.table["c", 4]), (2, 3))

    def test_point_40_the_same_statement_twice(self):
        one = statement("visit", a=5, b=5)
        self.assertEqual(run_batch(self.book, self.table, one, one), [("put", 2, (0, 0)), ("changed", 2, (0, 1))])
        self.assertEqual(len(self.table), 3)

    def test_point_40_the_first_the_middle_and_the_last_statement_is_refused(self):
        good = [statement("visit", a=1, b=1), statement("visit", 3, 3, a=5, b=5), statement("both", a=2)]
        for bad, kind, fields in self.BAD:
            for at in range(4):
                with self.subTest(bad=bad, at=at):
                    self.refused(at, kind, fields, *good[:at], bad, *good[at:])
                    self.assertEqual(self.numbers(), [(0, 0), (0, 0)])
                    self.assertIsNone(self.table["a", 5])

    def test_point_40_the_first_error_counts(self):
        good = statement("visit", a=1, b=1)
        for bad, kind, fields in self.BAD:
            for other, _, _ in self.BAD:
                self.refused(1, kind, fields, good, bad, good, other)

    def test_point_40_a_statement_behind_the_error_is_not_run(self):
        self.refused(0, Refused, {"key": "a", "row": 1}, statement("new", a=2, c=2), statement("both", a=1))
        self.assertEqual(self.numbers(), [(0, 0), (0, 0)])

    def test_point_40_refused_because_of_an_earlier_statement_of_the_batch(self):
        first = statement("new", a=6, c=6)
        last = statement("new", a=7, c=6)
        cause = self.refused(2, Refused, {"key": "c", "row": 2}, first, statement("both", a=1), last)
        self.assertIs(type(cause.__cause__), Taken)
        self.assertEqual((cause.__cause__.key, cause.__cause__.row), ("c", 2))
        self.assertEqual(len(self.table), 2)
        self.assertIsNone(self.table["a", 6])
        self.assertEqual(run_batch(self.book, self.table, first), [("put", 2, (0, 0))])

    def test_point_40_the_outcomes_are_a_new_list(self):
        outcomes = run_batch(self.book, self.table, statement("both", a=1))
        self.assertIs(type(outcomes), list)
        self.assertIs(type(outcomes[0]), tuple)
        self.assertIs(type(outcomes[0][2]), tuple)
