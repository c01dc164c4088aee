"""The least discipline: points 78 to 82, 97 and 98."""

import itertools
import random

from elseput.books import Book
from elseput.disciplines import Discipline
from elseput.errors import BadName, BadPlan
from elseput.finding import standings
from elseput.judging import judge
from elseput.least import best_order, lazy, lazy_plan, least, needed_keeps, needed_locks
from elseput.machine import Machine
from elseput.orders import KeyOrder, every_order
from elseput.parts import fault_kinds
from elseput.plans import Plan
from elseput.retrying import RetryingMachine
from elseput.rings import obeyed_orders
from elseput.rollouts import bridge
from elseput.shapes import Shape
from elseput.visitors import pair_reasons, visitors
from tests.helpers import Case, discipline, drawn_book, drawn_discipline

HEAD = "keys a b c\nfields n m\n"
EXAMPLE = "keys a b\nfields n\nvisit: a change, b change; add n 1\nreset: b change, a change; set n 0"


def texts(found):
    return [(name, plan.text()) for name, plan in found]


def held(found, attribute):
    """The visitors whose keys are locked, or kept."""
    return {(name, key) for name, plan in found for key in getattr(plan, attribute)}


def changed(found, name, steps, locked, kept):
    """A discipline with another plan for one shape."""
    other = Discipline(found.book)
    for each, plan in found:
        other[each] = Plan(steps, locked=locked, kept=kept) if each == name else plan
    return other


class LazyPlans(Case):
    def test_point_78_takes_in_the_order_and_late(self):
        for arms, order, steps in (
            ("a", "a", "take a, look a"), ("a b", "ab", "take a, look a, take b, look b"),
            ("b a", "ab", "take a, take b, look b, look a"), ("b a", "ba", "take b, look b, take a, look a"),
            ("a b c", "abc", "take a, look a, take b, look b, take c, look c"),
            ("b a c", "abc", "take a, take b, look b, look a, take c, look c"),
            ("a c b", "abc", "take a, look a, take b, take c, look c, look b"),
            ("c b a", "abc", "take a, take b, take c, look c, look b, look a"),
            ("b d a c", "abcd", "take a, take b, look b, take c, take d, look d, look a, look c"),
            ("d c", "abcd", "take c, take d, look d, look c"), ("b", "xaybz", "take b, look b"),
            ("c a", "axbyc", "take a, take c, look c, look a"),
        ):
            with self.subTest(arms=arms, order=order):
                shape = Shape.read("s: " + ", ".join(f"{key} tell" for key in arms.split()))
                plan = lazy_plan(shape, KeyOrder(order))
                self.assertIs(type(plan), Plan)
                self.assertEqual(plan.text(), steps)

    def test_point_78_locked_and_kept_keys(self):
        shape = Shape.read("s: b tell, a change; add n 1")
        order = KeyOrder("ab")
        plan = lazy_plan(shape, order, locked=["a"], kept=("b", "a"))
        self.assertEqual(plan.text(), "take a, take b, look b, look a; lock a; keep b a")
        self.assertEqual(lazy_plan(shape, order, kept=["a"]).text(), "take a, take b, look b, look a; keep a")
        self.assertEqual((plan.locked, plan.kept), (("a",), ("b", "a")))
        self.fails(BadPlan, {}, lambda: lazy_plan(shape, order, locked=["c"]))
        self.fails(BadPlan, {}, lambda: lazy_plan(shape, order, kept=["a", "a"]))
        self.fails(BadName, {"name": "A"}, lambda: lazy_plan(shape, order, locked=["c"], kept=["A"]))

    def test_points_3_and_78_what_is_given_stays(self):
        shape, order, locked = Shape.read("s: b tell, a tell"), KeyOrder("ab"), ["a"]
        plan = lazy_plan(shape, order, locked=locked)
        locked.append("b")
        order += "c"
        self.assertEqual((plan.text(), shape.text()), ("take a, take b, look b, look a; lock a", "s: b tell, a tell"))

    def test_point_78_drawn_plans_cover_and_obey_and_fit(self):
        rng = random.Random(78)
        for _ in range(60):
            book = drawn_book(rng)
            order = rng.choice(list(every_order(book.key_names)))
            for shape in book:
                plan = lazy_plan(shape, order)
                self.assertTrue(plan.fits(shape) and all(plan.covers(key) for key in shape.carried))
                self.assertTrue(all(order[first] < order[second] for first, second in plan.pairs()))
                takes = [key for deed, key in plan if deed == "take"]
                self.assertEqual(takes, order(shape.carried))


class Needed(Case):
    def needed(self, shapes):
        book = Book.read(HEAD + shapes)
        locks, keeps = needed_locks(book), needed_keeps(book)
        self.assertTrue(type(locks) is list and type(keeps) is list)
        return [" ".join(".".join(visitor) for visitor in found) for found in (locks, keeps)]

    def test_point_79(self):
        for shapes, locks, keeps in (
            ("s: a refuse", "", ""), ("s: a tell", "", ""), ("s: a change; add n 1", "", "s.a"),
            ("s: a change, b refuse; add n 1", "", "s.a"), ("s: a change; when never; add n 1", "", ""),
            ("s: a change, b change; add n 1", "s.a s.b", ""),
            ("s: a change, b tell; add n 1", "", "s.a"), ("s: a change, b tell; add n 1, add m 1", "s.a s.b", ""),
            ("s: a tell, b change; when never; add n 1, add m 1", "", ""),
            ("s: a change; add n 1\nt: a tell", "", "s.a"), ("s: a change; add n 1, set m 1\nt: a tell", "", "s.a t.a"),
            ("t: b tell\ns: a change; add n 1, set m 1", "t.b s.a", ""),
            ("s: a change; add n 1\nt: b change; set n 0", "s.a t.b", ""),
            ("s: a change; when n < 1; add n 1\nt: b change; when n > 0; set n 0", "", "s.a t.b"),
            ("s: a change; when n < 1; add m 1\nt: b change; when n > 0; set n 0\nu: a change; when n == 0; set m 1", "",
             "s.a t.b u.a"),
            ("s: a change; when n < 2; add m 1\nt: b change; when n > 0; set n 0\nu: a change; when n < 0; set m 1",
             "s.a t.b", "s.a u.a"),
            ("s: a change; when n < 3; add m 1\nt: b change; when n > 0; set n 0\nu: a change; when n == 1; set m 1",
             "s.a t.b u.a", ""),
        ):
            with self.subTest(shapes=shapes):
                self.assertEqual(self.needed(shapes), [locks, keeps])

    def test_point_79_in_the_order_of_the_visitors(self):
        self.assertEqual(self.needed("z: c change, a change; add n 1\ny: b tell\nx: b tell, a change; add m 1, add n 1"),
                         ["z.c z.a y.b x.b x.a", ""])

    def test_point_79_a_book_without_shapes(self):
        self.assertEqual(self.needed("s: a tell")[0], "")
        book = Book(["a"], ["n"])
        self.assertEqual((needed_locks(book), needed_keeps(book)), ([], []))

    def test_points_67_and_79_drawn_books(self):
        rng = random.Random(79)
        for _ in range(80):
            book = drawn_book(rng)
            bare = Discipline(book)
            for shape in book:
                bare[shape.name] = Plan([("look", key) for key in shape.carried])
            clashing = [(first, second) for first, second, reason in pair_reasons(bare) if reason != "harmless"]
            both = clashing + [(second, first) for first, second in clashing]
            locks = [one for one in visitors(book) if any(one == first and one[1] != second[1] for first, second in both)]
            keeps = [one for one in visitors(book)
                     if any(one == first and one[1] == second[1] and not (one in locks and second in locks)
                            for first, second in both)]
            self.assertEqual((needed_locks(book), needed_keeps(book)), (locks, keeps))


class Lazy(Case):
    def test_point_80_the_plans(self):
        book = Book.read(HEAD + "s: b change, a refuse; when n < 1; add n 1\nt: c change, a tell; when n > 0; set m 0\nu: a refuse")
        self.assertEqual(texts(lazy(book, KeyOrder("abc"))), [
            ("s", "take a, take b, look b, look a; keep b"), ("t", "take a, take c, look c, look a; keep c"),
            ("u", "take a, look a"),
        ])
        self.assertEqual(texts(lazy(book, KeyOrder("cxbay"))), [
            ("s", "take b, look b, take a, look a; keep b"), ("t", "take c, look c, take a, look a; keep c"),
            ("u", "take a, look a"),
        ])
        book["u"] = Shape.read("u: a tell, c change, b tell; add n 1, add m 1")
        found = lazy(book, KeyOrder("abc"))
        self.assertIs(type(found), Discipline)
        self.assertEqual(texts(found), [
            ("s", "take a, take b, look b, look a; lock b"),
            ("t", "take a, take c, look c, look a; lock a; keep c"),
            ("u", "take a, look a, take b, take c, look c, look b; lock a c b; keep c"),
        ])
        self.assertEqual(found.book.text(), book.text())

    def test_points_3_and_80_the_book_and_the_order_stay(self):
        book, order = Book.read(EXAMPLE), KeyOrder("ab")
        found = lazy(book, order)
        whole = texts(found)
        book["visit"] = Shape.read("visit: a tell")
        order += "c"
        self.assertEqual(texts(found), whole)
        found["visit"] = Plan.read("look a, look b")
        self.assertEqual((book.text().split("\n")[2], order.names), ("visit: a tell", ("a", "b", "c")))

    def test_point_80_safe_for_each_order(self):
        rng = random.Random(80)
        for _ in range(40):
            book = drawn_book(rng)
            for order in rng.sample(list(every_order(book.key_names)), min(3, len(book.key_names))):
                found = lazy(book, order)
                verdict = judge(found)
                self.assertTrue(verdict.safe)
                self.assertIn(order.names, [other.names for other in obeyed_orders(found)])
                self.assertEqual(held(found, "locked"), set(needed_locks(book)))
                self.assertEqual(held(found, "kept"), set(needed_keeps(book)))


class Least(Case):
    def test_point_81_the_first_order_with_the_least_waste(self):
        for keys, shapes, order in (
            ("a b", "", "ab"), ("b a", "", "ba"), ("a", "s: a tell", "a"), ("a b", "s: a tell, b tell", "ab"),
            ("a b", "s: b tell, a tell", "ba"), ("a b", "s: b tell, a tell\nt: a tell, b tell", "ab"),
            ("b a", "s: b tell, a tell\nt: a tell, b tell", "ba"),
            ("a b", "s: b tell, a tell\nt: a tell, b tell\nu: b tell, a tell", "ba"),
            ("a b c", "s: c tell, a tell", "bca"), ("a b c", "s: c tell, b tell, a tell", "cba"),
            ("d c b a", "s: a tell, b tell, c tell, d tell\nt: d tell, a tell\nu: d tell, a tell", "abcd"),
            ("d c b a", "s: a tell, b tell, c tell, d tell\nt: d tell, a tell\nu: d tell, a tell\nv: d tell, a tell", "dabc"),
        ):
            with self.subTest(keys=keys, shapes=shapes):
                book = Book.read("\n".join([f"keys {keys}", "fields n", *shapes.split("\n")]).strip())
                found = best_order(book)
                self.assertIs(type(found), KeyOrder)
                self.assertEqual("".join(found.names), order)

    def test_point_81_least_is_lazy_for_the_best_order(self):
        rng = random.Random(81)
        for _ in range(60):
            book = drawn_book(rng)
            order = best_order(book)
            wastes = [(lazy(book, other).waste, at) for at, other in enumerate(every_order(book.key_names))]
            self.assertEqual(order.names, [other.names for other in every_order(book.key_names)][min(wastes)[1]])
            self.assertEqual(texts(least(book)), texts(lazy(book, order)))
            self.assertEqual(least(book).waste, min(wastes)[0])

    def test_point_81_each_safe_discipline_needs_as_much(self):
        rng = random.Random(811)
        safe = 0
        for _ in range(200):
            book = drawn_book(rng, keys=3, shapes=2)
            found = drawn_discipline(rng, book)
            if judge(found).safe:
                safe += 1
                self.assertTrue(found.waste >= least(book).waste)
                needed = set(needed_locks(book))
                self.assertTrue(needed <= held(found, "locked"))
                if held(found, "locked") == needed:
                    self.assertTrue(set(needed_keeps(book)) <= held(found, "kept"))
        self.assertTrue(safe > 50)

    def test_point_81_nothing_can_be_left_out(self):
        rng = random.Random(812)
        parts = {"take": 0, "locked": 0, "kept": 0}
        for _ in range(50):
            found = least(drawn_book(rng))
            self.assertTrue(judge(found).safe)
            for name, plan in found:
                for step in plan:
                    if step[0] == "take":
                        less = changed(found, name, [one for one in plan if one != step], plan.locked, plan.kept)
                        self.assertFalse(judge(less).safe)
                        parts["take"] += 1
                for key in plan.locked:
                    less = changed(found, name, plan.steps, [one for one in plan.locked if one != key], plan.kept)
                    self.assertFalse(judge(less).safe)
                    parts["locked"] += 1
                for key in plan.kept:
                    less = changed(found, name, plan.steps, plan.locked, [one for one in plan.kept if one != key])
                    self.assertFalse(judge(less).safe)
                    parts["kept"] += 1
        self.assertTrue(min(parts.values()) > 20)

    def test_point_97_the_only_least(self):
        rng = random.Random(97)
        others = 0
        for _ in range(25):
            book = drawn_book(rng, keys=3, shapes=2)
            found, order = least(book), best_order(book)
            for plans in itertools.product(*[covering_plans(shape, order) for shape in book]):
                sums = (sum(plan.waste for plan in plans), sum(len(plan.locked) for plan in plans),
                        sum(len(plan.kept) for plan in plans))
                if all(one <= two for one, two in zip(sums, (found.waste, found.locks, found.keeps))):
                    other = Discipline(book)
                    for shape, plan in zip(book, plans):
                        other[shape.name] = plan
                    self.assertIs(judge(other).safe, texts(other) == texts(found))
                    others += 1
        self.assertTrue(others > 60)


def covering_plans(shape, order):
    """All plans for a shape that cover its keys and obey the order, as each safe discipline that obeys it has them."""
    looks = [("look", key) for key in shape.carried]
    found = []
    for places in itertools.combinations_with_replacement(range(len(looks)), len(looks)):
        steps = []
        for at, look in enumerate(looks):
            steps += [("take", key) for key, place in zip(order(shape.carried), places) if place == at] + [look]
        if all(steps.index(("take", key)) < steps.index(("look", key)) for key in shape.carried):
            found.append(steps)
    free = [key for key, action in shape if action != "refuse"]
    some = [chosen for size in range(len(free) + 1) for chosen in itertools.combinations(free, size)]
    return [Plan(steps, locked=locked, kept=kept) for steps in found for locked in some for kept in some]


class Examples(Case):
    def setUp(self):
        self.book = Book.read(EXAMPLE)
        self.plain = Discipline(self.book)

    def test_point_82(self):
        verdict = judge(self.plain)
        self.assertFalse(verdict)
        self.assertEqual(verdict.standing.sentence(), "stuck: visit reset at a b in 4 turns")
        self.assertEqual(verdict.standing.weaving().text(), "0 0 1 1")
        machine = Machine(self.plain, verdict.standing.table(), verdict.standing.statements())
        machine.play(verdict.standing.weaving())
        self.assertEqual((machine.held(0), machine.held(1)), ([("key", "a", 0)], [("key", "b", 0)]))
        self.assertEqual(machine.waiting, [0, 1])
        self.assertEqual((machine(0), machine(1)), ((0, "wait", ("key", "b", 0)), (1, "wait", ("key", "a", 0))))
        self.assertEqual(best_order(self.book).names, ("a", "b"))
        self.assertEqual(least(self.book).waste, 1)
        self.assertEqual(texts(least(self.book)), [
            ("visit", "take a, look a, take b, look b; lock a b"),
            ("reset", "take a, take b, look b, look a; lock b a"),
        ])
        self.assertTrue(judge(least(self.book)))

    def test_point_98(self):
        self.assertEqual(fault_kinds(self.plain), ["stuck"])
        [standing] = standings(self.plain)
        machine = Machine(self.plain, standing.table(), standing.statements())
        machine.play(standing.weaving())
        self.assertEqual(machine.ring, [0, 1])
        machine = RetryingMachine(self.plain, standing.table(), standing.statements())
        machine.play(standing.weaving())
        self.assertEqual(machine.restarts, [(3, 1)])
        self.assertEqual(machine.settle(), 8)
        self.assertEqual(machine.events[4:], [
            (0, "take", "b"), (0, "look", "b"), (0, "put", 0), (1, "take", "b"), (1, "find", 0), (1, "lock", 0),
            (1, "read", 0), (1, "write", "n"),
        ])
        self.assertIsNone(bridge(least(self.book), lazy(self.book, KeyOrder(["b", "a"]))))
        pairs = [found["visit"].pairs() for found in (least(self.book), lazy(self.book, KeyOrder(["b", "a"])))]
        self.assertEqual(pairs, [[("a", "b")], [("b", "a")]])
