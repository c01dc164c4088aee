"""The largest books that the document allows: each answer comes well within a second."""

import time

from elseput.disciplines import Discipline
from elseput.finding import standings
from elseput.judging import judge
from elseput.least import best_order, lazy, lazy_plan, least, needed_keeps, needed_locks
from elseput.machine import Machine
from elseput.orders import KeyOrder
from elseput.parts import fault_kinds, restricted
from elseput.plans import Plan
from elseput.reports import Report
from elseput.rings import obeyed_orders
from elseput.rollouts import alongside, bridge, compatible, strictest
from elseput.tables import Table
from elseput.visitors import pair_reasons, visitors
from tests.helpers import Case, largest_book

# What meets two of these conditions is hard to find, as nothing does, and each of them has eight comparisons.
HARD = ("when (n < 1 or m < 2) and (k < 3 or n < 14) and (m < 15 or k < 16) and (n < 27 or m < 28); add n 1, add k 1",
        "when (n > 31 or m > 32) and (k > 43 or n > 54) and (m > 55 or k > 56) and (n > 67 or m > 68); set m 1, add n 2",
        "when (n == 41 or m == 42) and (k == 43 or n == 44) and (m != 45 or k == 46) and (n != 47 or m != 48); set n 1")


def hard_book():
    """One of the largest books, with conditions that are hard to compare."""
    book = largest_book()
    for at, shape in enumerate(list(book)):
        arms = ", ".join(f"{key} {action}" for key, action in shape)
        book[shape.name] = shape.read(f"{shape.name}: {arms}; {HARD[at % 3]}")
    return book


def longest(book, **more):
    """A discipline with the longest plans that there are; none of them covers a key."""
    found = Discipline(book)
    for shape in book:
        keys = shape.carried
        steps = [(deed, key) for deed in ("take", "look", "free") for key in (keys if deed == "look" else sorted(keys))]
        found[shape.name] = Plan(steps, **more)
    return found


def bare(book):
    """A discipline that takes nothing."""
    found = Discipline(book)
    for shape in book:
        found[shape.name] = Plan([("look", key) for key in shape.carried])
    return found


def texts(found):
    return [(name, plan.text()) for name, plan in found]


class Largest(Case):
    def soon(self, call, *given):
        begun = time.perf_counter()
        found = call(*given)
        self.assertLess(time.perf_counter() - begun, 0.5)
        return found

    def disciplines(self):
        for book in (largest_book(), largest_book("add n 1, add m 1, add k 1"), hard_book(),
                     largest_book("when n == 1 and n == 2 and m == 3 and m == 4 and k == 5 and k == 6; add n 1, add m 1")):
            yield from (Discipline(book), longest(book), bare(book))

    def test_the_books_are_as_large_as_may_be(self):
        for found in self.disciplines():
            book = found.book
            self.assertEqual((len(book.key_names), len(book.field_names), len(book), book.full), (4, 3, 6, True))
            self.assertEqual(len(visitors(book)), 24)
        self.assertEqual({len(plan) for _, plan in longest(largest_book())}, {12})

    def test_reasons(self):
        for found in self.disciplines():
            self.assertEqual(len(self.soon(pair_reasons, found)), 300)

    def test_orders(self):
        self.assertEqual([len(self.soon(list, obeyed_orders(found))) for found in self.disciplines()], [0, 1, 24] * 4)

    def test_standings(self):
        for found in self.disciplines():
            self.soon(list, standings(found))
        found = self.soon(list, standings(bare(largest_book())))
        self.assertEqual(len(found), 21 * 4 + 300 + 576)
        found = self.soon(list, standings(Discipline(largest_book())))
        self.assertEqual([standing.kind for standing in found], ["stuck"] * 20)

    def test_weavings_of_the_greatest_cost(self):
        costs = {}
        for found in self.disciplines():
            every = list(standings(found))
            for kind in {standing.kind for standing in every}:
                standing = max([one for one in every if one.kind == kind], key=lambda one: one.cost)
                self.assertEqual(len(self.soon(standing.weaving)), standing.cost)
                costs[kind] = max(costs.get(kind, 0), standing.cost)
        self.assertEqual(costs, {"doubled": 26, "lost": 20, "told": 19, "stuck": 18})

    def test_all_weavings_of_one_discipline(self):
        for found in (longest(largest_book()), longest(largest_book(), kept=("a", "b", "c", "d"))):
            every = list(standings(found))
            begun = time.perf_counter()
            self.assertTrue(all(len(standing.weaving()) == standing.cost for standing in every))
            self.assertLess(time.perf_counter() - begun, 5)

    def test_judging_and_parts(self):
        for found in self.disciplines():
            verdict = self.soon(judge, found)
            self.assertIs(verdict.safe, False)
            self.assertIn(verdict.standing.kind, self.soon(fault_kinds, found))
            part = self.soon(restricted, found, list("zyxwvu") * 2)
            self.assertEqual(texts(part), texts(found))

    def test_the_least_discipline(self):
        for book in (largest_book(), largest_book("add n 1, add m 1, add k 1"), hard_book()):
            self.assertEqual(len(self.soon(needed_locks, book)), 24)
            self.assertEqual(self.soon(needed_keeps, book), [])
            order = self.soon(best_order, book)
            found = self.soon(least, book)
            self.assertEqual(texts(found), texts(self.soon(lazy, book, order)))
            self.assertEqual(len(self.soon(lazy_plan, book["u"], order)), 8)
            self.assertIs(self.soon(judge, found).safe, True)

    def test_two_disciplines_at_work(self):
        for book in (largest_book(), largest_book("add n 1, add m 1, add k 1"), hard_book()):
            found, order = least(book), best_order(book)
            other = self.soon(strictest, book, order)
            kept = strictest(largest_book("add n 1"), order)
            self.assertEqual(self.soon(bridge, found, other), [])
            self.assertIs(self.soon(compatible, found, kept), True)
            self.assertIs(self.soon(compatible, found, longest(book)), False)
            self.assertIsNone(self.soon(bridge, found, strictest(book, ~order)))
            half = restricted(found, "uvw")
            self.assertEqual(len(self.soon(alongside, half, half, ("aa", "bb", "cc"))), 6)

    def test_a_report_of_twelve_writers(self):
        book = largest_book()
        ones = [(name, dict.fromkeys("abcd", 0), dict.fromkeys("nmk", 0)) for name in "uvwxyzuvwxyz"]
        machine = Machine(strictest(book, KeyOrder("abcd")), Table(book.key_names, book.field_names), ones)
        self.soon(machine.settle)
        self.assertEqual((machine.ended, machine.faults), (True, []))
        self.assertEqual(len(self.soon(list, Report(machine).lines())), len(machine.events))
