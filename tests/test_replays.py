"""One at a time, again: point 65."""

from elseput.books import Book
from elseput.errors import BadRow, BadTurn, UnknownShape
from elseput.replays import replay
from tests.helpers import Case, table

BOOK = Book.read("keys a b\nfields n\nvisit: a change, b change; when n < 2; add n 1\nnew: b refuse\nseen: a tell")


def visit(a, b, n=0):
    return ("visit", {"a": a, "b": b}, {"n": n})


class Replays(Case):
    def setUp(self):
        self.table = table(BOOK, ({"a": 1}, (1,)))
        self.statements = [
            visit(1, 1), visit(2, 2), ("new", {"b": 2}, {"n": 5}), ("seen", {"a": 1}, {"n": 6}), visit(1, 2),
        ]

    def replay(self, order):
        return replay(BOOK, self.table, self.statements, order)

    def test_point_65_none(self):
        found = self.replay([])
        self.assertEqual(found, ([({"a": 1}, {"n": 1})], [None] * 5))
        self.assertIs(type(found), tuple)
        self.assertEqual(replay(BOOK, self.table, [], []), ([({"a": 1}, {"n": 1})], []))

    def test_point_65_all_in_order(self):
        rows, outcomes = self.replay([0, 1, 2, 3, 4])
        self.assertEqual(rows, [({"a": 1}, {"n": 2}), ({"a": 2, "b": 2}, {"n": 0})])
        self.assertEqual(outcomes, [("changed", 0, (2,)), ("put", 1, (0,)), ("refused", 1, None), ("told", 0, (2,)),
                                    ("passed", 0, None)])

    def test_point_65_all_in_another_order(self):
        rows, outcomes = self.replay([3, 4, 2, 1, 0])
        self.assertEqual(rows, [({"a": 1}, {"n": 2}), ({"b": 2}, {"n": 5})])
        self.assertEqual(outcomes, [("passed", 0, None), ("passed", 1, None), ("put", 1, (5,)), ("told", 0, (1,)),
                                    ("changed", 0, (2,))])

    def test_point_65_some(self):
        rows, outcomes = self.replay([2, 0])
        self.assertEqual(rows, [({"a": 1}, {"n": 2}), ({"b": 2}, {"n": 5})])
        self.assertEqual(outcomes, [("changed", 0, (2,)), None, ("put", 1, (5,)), None, None])

    def test_point_65_the_given_table_and_order_stay_as_they_were(self):
        order, statements = [4, 1], list(self.statements)
        rows, outcomes = self.replay(order)
        rows[0][1]["n"] = 99
        outcomes.clear()
        self.assertEqual(self.table.rows(), [({"a": 1}, {"n": 1})])
        self.assertEqual((order, self.statements), ([4, 1], statements))
        self.assertEqual(self.statements[1], visit(2, 2))

    def test_point_65_bad_turns(self):
        for order, bad in (([5], 5), ([-1], -1), ([0, 7, -2], 7), ([0, 1, 2, 3, 4, -6], -6), ([-5, 9], -5)):
            with self.subTest(order=order):
                self.fails(BadTurn, {"writer": bad}, self.replay, order)
        self.fails(BadTurn, {"writer": 0}, replay, BOOK, self.table, [], [0])

    def test_point_65_bad_turn_comes_before_every_check(self):
        self.statements[0] = ("nix", {}, {})
        self.fails(BadTurn, {"writer": 5}, self.replay, [0, 5])
        self.fails(BadTurn, {"writer": -1}, self.replay, [0, -1])

    def test_point_65_only_statements_in_the_order_are_checked(self):
        self.statements[1] = ("nix", {}, {})
        self.statements[3] = ("seen", {"b": 1}, {"n": 0})
        self.assertEqual(self.replay([0])[1], [("changed", 0, (2,)), None, None, None, None])
        self.fails(UnknownShape, {"name": "nix"}, self.replay, [0, 1, 3])
        self.fails(BadRow, {}, self.replay, [3, 1])
        self.assertEqual(self.table.rows(), [({"a": 1}, {"n": 1})])
