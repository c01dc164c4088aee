"""Which standings a discipline has, and in which order: points 69 and 70."""

import inspect
import itertools
import random

from elseput.books import Book
from elseput.contents import least_content
from elseput.disciplines import Discipline
from elseput.finding import standings
from elseput.plans import Plan
from elseput.shapes import Shape
from elseput.visitors import visitors
from tests.helpers import Case, discipline, drawn_book, drawn_discipline

HEAD = "keys a b c d\nfields n m\n"
RING = HEAD + """s: a tell, b tell
t: b tell, c tell
u: c tell, d tell
v: d tell, a tell
w: c tell, a tell"""


def told(standing):
    return (standing.kind, standing.names, standing.path, standing.cost)


def sentences(found):
    return [standing.sentence() for standing in standings(found)]


class Found(Case):
    def sentences(self, text, **plans):
        return sentences(discipline(text, **plans))

    def test_point_69_a_book_without_shapes(self):
        self.assertEqual(sentences(Discipline(Book(["a", "b"], ["n"]))), [])

    def test_point_69_a_safe_discipline(self):
        self.assertEqual(self.sentences(HEAD + "s: a change; add n 1, add m 1\nt: a tell, b refuse"), [])

    def test_point_69_doubled_unless_both_plans_cover_the_key(self):
        text = HEAD + "s: a tell\nt: a tell, b tell"
        covered = "take b, take a, look a, look b"
        for s, t, expected in (
            ("take a, look a", covered, []),
            ("look a", covered, ["doubled: s s at a in 4 turns", "doubled: s t at a in 7 turns"]),
            ("take a, look a, free a", covered, ["doubled: s s at a in 8 turns", "doubled: s t at a in 9 turns"]),
            ("look a, take a", covered, ["doubled: s s at a in 6 turns", "doubled: s t at a in 8 turns"]),
            ("take a, look a", "take a, look a, look b",
             ["doubled: t t at b in 8 turns"]),
            ("take a, look a", "take a, free a, look a, take b, look b",
             ["doubled: s t at a in 9 turns", "doubled: t t at a in 12 turns"]),
            ("look a", "look a, look b",
             ["doubled: s s at a in 4 turns", "doubled: s t at a in 5 turns", "doubled: t t at a in 6 turns",
              "doubled: t t at b in 6 turns"]),
        ):
            with self.subTest(s=s, t=t):
                self.assertEqual(self.sentences(text, s=s, t=t), expected)

    def test_point_69_shapes_that_refuse_can_double(self):
        self.assertEqual(self.sentences(HEAD + "s: c refuse, a refuse", s="look c, take a, look a"),
                         ["doubled: s s at c in 8 turns"])

    def test_point_69_lost_and_told_reaches(self):
        text = HEAD + "s: a change, b change; add n 1, add m 1"
        for plan, expected in (
            ("take a, look a, take b, look b; lock a b", []),
            ("take a, look a, take b, look b; lock a", ["lost: s s at a b in 11 turns", "lost: s s at b b in 12 turns",
             "told: s s at a b in 10 turns", "told: s s at b a in 10 turns", "told: s s at b b in 11 turns"]),
            ("take a, look a, take b, look b; lock a; keep b", ["lost: s s at a b in 11 turns",
             "told: s s at a b in 10 turns", "told: s s at b a in 10 turns"]),
            ("take a, take b, look a, look b; keep a b", ["lost: s s at a b in 11 turns",
             "told: s s at a b in 10 turns", "told: s s at b a in 10 turns"]),
            ("take a, take b, look a, look b; lock b; keep a", ["lost: s s at a b in 12 turns",
             "told: s s at a b in 11 turns", "told: s s at b a in 11 turns"]),
        ):
            with self.subTest(plan=plan):
                rows = [sentence.rsplit(", row ", 1)[0] for sentence in self.sentences(text, s=plan)]
                self.assertEqual(rows, expected)

    def test_point_69_conditions_that_never_hold_together(self):
        text = HEAD + "s: a change; when {}; add n 1, add m 1\nt: a change; when {}; add n 2"
        for one, two, expected in (
            ("n < 1", "n > 0", ["lost: s s", "lost: t t", "told: s s", "told: t s"]),
            ("n < 2", "n > 0", ["lost: s s", "lost: s t", "lost: t t", "told: s s", "told: t s"]),
            ("never", "n > 0", ["lost: t t"]), ("n == 1", "never", ["lost: s s", "told: s s", "told: t s"]),
            ("never", "never", []), ("n < 1 and n > 1", "n != 2", ["lost: t t"]),
            ("always", "always", ["lost: s s", "lost: s t", "lost: t t", "told: s s", "told: t s"]),
        ):
            with self.subTest(one=one, two=two):
                found = self.sentences(text.format(one, two), s="take a, look a", t="take a, look a")
                self.assertEqual([sentence.split(" at ")[0] for sentence in found], expected)

    def test_point_69_one_shape_with_one_assignment_is_never_told(self):
        found = self.sentences(HEAD + "s: a change; set n 1\nt: a tell", s="take a, look a", t="take a, look a")
        self.assertEqual(found, ["lost: s s at a a in 8 turns, row 0 0"])

    def test_point_69_rings(self):
        self.assertEqual(self.sentences(RING), ["stuck: s t w at a b c in 6 turns", "stuck: s t u v at a b c d in 8 turns"])

    def test_point_69_rings_in_both_directions(self):
        text = "keys a b c\nfields n\ns: a tell, b tell, c tell\nt: c tell, b tell, a tell"
        self.assertEqual([told(standing) for standing in standings(discipline(text))], [
            ("stuck", ("s", "t"), ("a", "b"), 6), ("stuck", ("s", "t"), ("a", "c"), 8),
            ("stuck", ("s", "t"), ("b", "c"), 6), ("stuck", ("s", "s", "t"), ("a", "b", "c"), 10),
            ("stuck", ("s", "t", "t"), ("a", "c", "b"), 10),
        ])

    def test_point_69_the_writer_with_the_least_number_of_steps(self):
        text = "keys a b\nfields n\nz: b tell, a tell\ny: a tell, b tell\nx: b tell, a tell\nw: b tell, a tell"
        late, early = "take b, look b, take a, look a", "take b, take a, look b, look a"
        for z, x, w, name, cost in ((late, early, early, "x", 3), (early, late, early, "z", 3), (late, late, early, "w", 3),
                                    (late, late, late, "z", 4), (early, early, early, "z", 3)):
            with self.subTest(z=z, x=x, w=w):
                self.assertEqual(self.sentences(text, z=z, x=x, w=w), [f"stuck: y {name} at a b in {cost} turns"])

    def test_point_69_keys_that_are_freed_before_the_next_is_taken_make_no_ring(self):
        text = "keys a b\nfields n\ns: a tell, b tell\nt: b tell, a tell"
        for line, many in (("take b, look b, free b, take a, look a", 0), ("take b, look b, take a, free b, look a", 1)):
            found = [sentence for sentence in self.sentences(text, t=line) if sentence.startswith("stuck")]
            self.assertEqual(len(found), many)

    def test_point_69_one_shape_alone_is_never_stuck(self):
        rng = random.Random(3)
        for _ in range(40):
            found = drawn_discipline(rng, drawn_book(rng, shapes=1))
            self.assertNotIn("stuck", [standing.kind for standing in standings(found)])


class Ordered(Case):
    def test_point_70_kinds_and_shapes_and_keys_in_the_order_of_the_book(self):
        text = "keys b a\nfields n\nz: a tell, b change; add n 1\ny: b tell, a tell"
        found = discipline(text, z="look a, look b", y="look b, look a")
        self.assertEqual([standing[:3] for standing in map(told, standings(found))], [
            ("doubled", ("z", "z"), ("b",)), ("doubled", ("z", "z"), ("a",)),
            ("doubled", ("z", "y"), ("b",)), ("doubled", ("z", "y"), ("a",)),
            ("doubled", ("y", "y"), ("b",)), ("doubled", ("y", "y"), ("a",)),
            ("lost", ("z", "z"), ("b", "b")),
        ])

    def test_point_70_visitors_in_their_order(self):
        text = "keys b a\nfields n m\nz: a tell, b change; add n 1, add m 1\ny: b change; add n 1, set m 0"
        found = discipline(text, z="take a, take b, look a, look b", y="take b, look b")
        self.assertEqual([standing[:3] for standing in map(told, standings(found))], [
            ("lost", ("z", "z"), ("b", "b")), ("lost", ("z", "y"), ("b", "b")), ("lost", ("y", "y"), ("b", "b")),
            ("told", ("z", "z"), ("a", "b")), ("told", ("z", "y"), ("a", "b")),
            ("told", ("z", "z"), ("b", "b")), ("told", ("z", "y"), ("b", "b")),
            ("told", ("y", "z"), ("b", "b")), ("told", ("y", "y"), ("b", "b")),
        ])

    def test_point_70_rings_by_their_number_of_keys_and_then_by_their_keys(self):
        for pairs, rings in (
            ("ca ad db bc ac da", ["ca", "ad", "cadb"]), ("ca ad dc cd ac da", ["ca", "cd", "ad", "cad", "cda"]),
            ("ca ac bd", ["ca"]), ("ad dc", []), ("ad dc ca", ["cad"]), ("cb ba ad dc bd", ["cbd", "cbad"]),
        ):
            with self.subTest(pairs=pairs):
                shapes = [Shape.read(f"{pair}: {pair[0]} tell, {pair[1]} tell") for pair in pairs.split()]
                found = Discipline(Book("cadb", "n", *shapes))
                self.assertEqual([standing.path for standing in standings(found)], [tuple(ring) for ring in rings])
        shapes = [Shape.read("s: c tell, a tell, d tell, b tell"), Shape.read("t: b tell, d tell, a tell, c tell")]
        found = Discipline(Book("cadb", "n", *shapes))
        rings = [ring for size in (2, 3, 4) for ring in itertools.permutations("cadb", size)
                 if all("cadb".index(ring[0]) < "cadb".index(key) for key in ring[1:])]
        self.assertEqual([standing.path for standing in standings(found)], rings)
        self.assertEqual(len(rings), 6 + 8 + 6)

    def test_point_70_is_a_generator(self):
        self.assertTrue(inspect.isgeneratorfunction(standings))

    def test_points_69_and_70_drawn_disciplines(self):
        rng = random.Random(69)
        kinds = set()
        for _ in range(200):
            found = drawn_discipline(rng, drawn_book(rng))
            every = [told(standing) for standing in standings(found)]
            self.assertEqual(every, list(expected(found)))
            kinds.update(standing[0] for standing in every)
        self.assertEqual(len(kinds), 4)

    def test_point_3_finding_changes_nothing(self):
        found = discipline(RING, s="look a, look b")
        before = (found.book.text(), [(name, plan.text()) for name, plan in found])
        list(standings(found))
        self.assertEqual((found.book.text(), [(name, plan.text()) for name, plan in found]), before)

    def test_changes_between_two_standings_do_not_change_the_later_ones(self):
        found = discipline(RING, s="look a, look b")
        whole = sentences(found)
        every = standings(found)
        first = next(every).sentence()
        for name, plan in list(found):
            found[name] = Plan([("look", key) for key in dict.fromkeys(key for _, key in plan)])
        self.assertEqual([first, *[standing.sentence() for standing in every]], whole)


def expected(found):
    """The kinds, names, paths and costs of all standings, word for word as points 69 and 70 tell them."""
    book = found.book
    names = [shape.name for shape in book]
    visited = visitors(book)
    for at, one in enumerate(names):
        for two in names[at:]:
            for key in book.key_names:
                if key in book[one] and key in book[two] and not (found[one].covers(key) and found[two].covers(key)):
                    yield ("doubled", (one, two), (key,), len(found[one]) + len(found[two]) + 2)
    for at, (one, i) in enumerate(visited):
        for two, j in visited[at:]:
            changing = book[one].action(i) == "change" == book[two].action(j)
            if changing and meets(book, one, two) and not excluded(found, one, i, two, j):
                yield ("lost", (one, two), (i, j), reach(found, one, i) + reach(found, two, j) + 2)
    for one, i in visited:
        for two, j in visited:
            tears = book[two].action(j) == "change" and len(book[two].change) >= 2 and meets(book, two)
            if tears and not excluded(found, one, i, two, j):
                yield ("told", (one, two), (i, j), reach(found, one, i) + reach(found, two, j) + 1)
    for size in (2, 3, 4):
        for ring in itertools.permutations(book.key_names, size):
            if all(book.key_names.index(ring[0]) < book.key_names.index(key) for key in ring[1:]):
                yield from stuck(found, ring)


def stuck(found, ring):
    writers = []
    for pair in zip(ring, [*ring[1:], ring[0]]):
        writers.append([(plan.steps_before(pair[1]), at, name) for at, (name, plan) in enumerate(found)
                        if pair in plan.pairs()])
    if all(writers):
        least = [min(holders) for holders in writers]
        yield ("stuck", tuple(name for _, _, name in least), ring, sum(steps for steps, _, _ in least))


def meets(book, *names):
    return least_content(book.field_names, [book[name].condition for name in names]) is not None


def reach(found, name, key):
    return found[name].steps_to_look(key) + (key in found[name].locked) + 1


def excluded(found, one, i, two, j):
    first, second = found[one], found[two]
    changing = "change" in (found.book[one].action(i), found.book[two].action(j))
    if i in first.locked and j in second.locked and changing:
        return True
    return i == j and all(plan.holds_at_look(i) and i in plan.kept for plan in (first, second))
