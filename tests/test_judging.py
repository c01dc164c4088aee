"""Judging: points 74 to 76."""

import random

from elseput.books import Book
from elseput.disciplines import Discipline
from elseput.finding import standings
from elseput.judging import Verdict, judge
from elseput.machine import Machine
from elseput.orders import KeyOrder
from elseput.plans import Plan
from elseput.rings import obeyed_orders
from elseput.standings import Meeting, Standing
from elseput.visitors import pair_reasons
from tests.helpers import Case, discipline, drawn_book, drawn_discipline

HEAD = "keys b a\nfields n m\n"


class Judging(Case):
    def told(self, verdict):
        standing, order = verdict.standing, verdict.order
        return (verdict.safe, standing and standing.sentence(), order and "".join(order.names))

    def check(self, found, safe, sentence, order):
        verdict = judge(found)
        self.assertIs(type(verdict), Verdict)
        self.assertEqual(self.told(verdict), (safe, sentence, order))
        self.assertIs(type(verdict.safe), bool)
        self.assertIs(bool(verdict), safe)

    def test_point_76_a_book_without_shapes(self):
        self.check(Discipline(Book(["b", "a"], ["n"])), True, None, "ba")

    def test_point_76_a_safe_discipline(self):
        found = discipline(HEAD + "s: a change, b tell; add n 1, set m 2")
        self.check(found, True, None, "ab")
        verdict = judge(found)
        self.assertIsNone(verdict.standing)
        self.assertIs(type(verdict.order), KeyOrder)

    def test_point_76_the_first_standing_with_the_least_cost(self):
        text = HEAD + "s: a change, b refuse; add n 1\nt: b change; set n 0"
        for s, t, sentence, order in (
            ("look a, look b", "look b", "doubled: t t at b in 4 turns", "ba"),
            ("look a, look b", "take b, look b", "doubled: s s at b in 6 turns", "ba"),
            ("look a, look b", "look b; lock b", "doubled: t t at b in 4 turns", "ba"),
            ("look a, take a, look b; lock a", "take b, look b", "doubled: s t at b in 7 turns", "ba"),
            ("take a, look a, take b, look b", "take b, look b; lock b", "lost: s s at a a in 8 turns, row 0 0", "ab"),
            ("take a, look a, take b, look b; lock a", "take b, look b", "lost: t t at b b in 8 turns, row 0 0", "ab"),
        ):
            with self.subTest(s=s, t=t):
                self.check(discipline(text, s=s, t=t), False, sentence, order)

    def test_point_76_the_order_of_a_discipline_that_is_not_safe(self):
        self.check(discipline("keys a b\nfields n\ns: b tell, a tell", s="take b, look b, take a, free b, look a"), False,
                   "doubled: s s at b in 12 turns", "ba")

    def test_point_76_no_order(self):
        found = discipline(HEAD + "s: a tell, b tell\nt: b tell, a tell")
        self.check(found, False, "stuck: t s at b a in 4 turns", None)
        found["s"] = Plan.read("take a, take b, look a, look b")
        self.check(found, False, "stuck: t s at b a in 3 turns", None)

    def test_point_76_ties_between_kinds_and_between_shapes(self):
        text = "keys a b\nfields n m\nq: b tell, a tell\ns: a change, b tell; add n 1, add m 1\nr: b tell, a tell"
        found = discipline(text, s="take a, look a, take b, look b; lock b", q="take b, take a, look b, look a; lock b a",
                           r="take b, take a, look b, look a; lock b a")
        costs = [(standing.cost, standing.sentence()) for standing in standings(found)]
        self.assertEqual(min(cost for cost, _ in costs), 3)
        self.check(found, False, "stuck: s q at a b in 3 turns", None)

    def test_point_76_kinds_of_standings(self):
        text = HEAD + "s: a change; add n 1"
        self.assertIs(type(judge(discipline(text, s="take a, look a")).standing), Meeting)
        self.assertIs(type(judge(discipline(text, s="look a")).standing), Standing)

    def test_points_3_and_76_the_verdict_stays_when_the_discipline_changes(self):
        found = discipline(HEAD + "s: a change; add n 1", s="take a, look a")
        verdict = judge(found)
        before = (self.told(verdict), verdict.standing.table().rows(), verdict.standing.weaving().turns)
        found["s"] = Plan.read("look a; lock a")
        self.assertEqual((self.told(verdict), verdict.standing.table().rows(), verdict.standing.weaving().turns), before)
        self.assertNotEqual(self.told(judge(found)), before[0])
        order = judge(found).order
        order += "c"
        self.assertEqual(judge(found).order.names, ("b", "a"))

    def test_points_3_and_76_the_order_of_a_verdict_is_the_one_at_the_judging(self):
        found = discipline(HEAD + "s: a tell, b tell\nt: a tell, b tell")
        verdict = judge(found)
        found["s"] = Plan.read("take b, take a, look a, look b")
        self.assertIsNone(judge(found).order)
        self.assertEqual(verdict.order.names, ("a", "b"))
        self.assertIs(verdict.order, verdict.order)

    def test_points_74_and_76_drawn_disciplines(self):
        rng = random.Random(76)
        safe = 0
        for _ in range(200):
            found = drawn_discipline(rng, drawn_book(rng, shapes=3))
            verdict = judge(found)
            every = list(standings(found))
            orders = [order.names for order in obeyed_orders(found)]
            self.assertIs(verdict.safe, every == [])
            self.assertIs(bool(verdict), verdict.safe)
            covered = all(plan.covers(key) for _, plan in found for deed, key in plan if deed == "look")
            reasons = [reason for _, _, reason in pair_reasons(found)]
            self.assertIs(verdict.safe, covered and "open" not in reasons and orders != [])
            self.assertEqual(verdict.order and verdict.order.names, orders[0] if orders else None)
            if every:
                first = [one for one in every if one.cost == min(other.cost for other in every)][0]
                self.assertEqual(verdict.standing.sentence(), first.sentence())
                self.assertEqual(verdict.standing.weaving().turns, first.weaving().turns)
            safe += verdict.safe
        self.assertTrue(10 < safe < 190)

    def test_points_72_and_76_a_machine_shows_what_the_verdict_tells(self):
        rng = random.Random(720)
        for _ in range(60):
            found = drawn_discipline(rng, drawn_book(rng))
            standing = judge(found).standing
            if standing is not None:
                machine = Machine(found, standing.table(), standing.statements())
                machine.play(standing.weaving())
                self.assertEqual([fault[:2] for fault in machine.faults], [(standing.kind, standing.cost - 1)])
