"""What a standing is: points 71 to 73, and its attributes of point 69."""

import itertools
import random

from elseput.finding import standings
from elseput.machine import Machine
from elseput.plans import Plan
from elseput.standings import Meeting, Standing
from elseput.tables import Table
from elseput.weavings import Weaving
from tests.helpers import Case, discipline, drawn_book, drawn_discipline

HEAD = "keys a b c\nfields n m\n"
TOLD = HEAD + "s: a change; when n < 3; add n 1, set m 2\nt: b tell, a tell"
RING = """keys a b c d
fields n
s: a tell, b tell
t: b tell, c tell
u: c tell, d tell
v: d tell, a tell
w: c tell, a tell"""


def goes_wrong(found, standing, turns):
    """Whether a machine has after these turns exactly the one fault that point 72 tells."""
    machine = Machine(found, standing.table(), standing.statements())
    machine.play(turns)
    told = [(kind, turn) for kind, turn, _, _ in machine.faults]
    is_first = standing.kind != "told" or [fault[2] for fault in machine.faults] == [0]
    return told == [(standing.kind, len(turns) - 1)] and is_first


def least_by_trying(found, standing):
    """The turns of the least weaving that goes wrong, after trying all."""
    writers = range(len(standing.names))
    return next(turns for turns in itertools.product(writers, repeat=standing.cost) if goes_wrong(found, standing, turns))


class Kinds(Case):
    def check(self, found, sentence, statements, rows, turns):
        """A standing of the discipline has this sentence, this table, these statements and this weaving."""
        standing = {standing.sentence(): standing for standing in standings(found)}[sentence]
        kind, rest = sentence.split(": ")
        names, rest = rest.split(" at ")
        path, rest = rest.split(" in ")
        told = (standing.kind, " ".join(standing.names), " ".join(standing.path), standing.cost)
        self.assertEqual(told, (kind, names, path, int(rest.split()[0])))
        self.assertEqual(standing.statements(), statements)
        self.assertEqual(standing.table().rows(), rows)
        table = standing.table()
        self.assertEqual((table.key_names, table.field_names), (found.book.key_names, found.book.field_names))
        self.assertEqual(standing.weaving().text(), turns)
        self.assertTrue(goes_wrong(found, standing, standing.weaving()))
        self.assertIs(type(standing), Meeting if kind in ("lost", "told") else Standing)

    def test_doubled(self):
        found = discipline(HEAD + "s: a tell, b tell\nt: c tell, b tell", t="look c, take b, look b, free b")
        zeros = {"n": 0, "m": 0}
        self.check(found, "doubled: s t at b in 10 turns", [("s", {"a": 1, "b": 0}, zeros), ("t", {"c": 2, "b": 0}, zeros)],
                   [], "0 0 1 1 1 1 0 0 0 1")
        self.check(found, "doubled: t t at b in 10 turns", [("t", {"c": 1, "b": 0}, zeros), ("t", {"c": 2, "b": 0}, zeros)],
                   [], "0 0 0 0 1 1 1 0 1 1")
        self.check(found, "doubled: t t at c in 10 turns", [("t", {"c": 0, "b": 1}, zeros), ("t", {"c": 0, "b": 2}, zeros)],
                   [], "0 0 0 0 1 0 1 1 1 1")

    def test_doubled_without_any_locks(self):
        found = discipline("keys a\nfields n\ns: a refuse", s="look a")
        self.check(found, "doubled: s s at a in 4 turns", [("s", {"a": 0}, {"n": 0}), ("s", {"a": 0}, {"n": 0})], [],
                   "0 1 0 1")

    def test_doubled_where_a_key_is_taken_behind_its_look(self):
        found = discipline("keys a\nfields n\ns: a refuse\nt: a refuse", t="look a, take a")
        ones = [("s", {"a": 0}, {"n": 0}), ("t", {"a": 0}, {"n": 0})]
        self.check(found, "doubled: s t at a in 6 turns", ones, [], "0 0 1 0 1 1")
        self.check(found, "doubled: t t at a in 6 turns", [("t", {"a": 0}, {"n": 0})] * 2, [], "0 0 1 0 1 1")
        found = discipline("keys a\nfields n\ns: a refuse\nt: a refuse", s="look a, take a")
        self.check(found, "doubled: s t at a in 6 turns", ones, [], "0 1 1 1 0 0")

    def test_lost(self):
        found = discipline(
            HEAD + "s: a change; when n < 3; add n 1\nt: b tell, c change; when n > 1 and m == 7; set n 0",
            s="take a, look a", t="take b, look b, take c, look c; lock c; keep b",
        )
        zeros = {"n": 0, "m": 0}
        self.check(found, "lost: s s at a a in 8 turns, row 2 0", [("s", {"a": 0}, zeros), ("s", {"a": 0}, zeros)],
                   [({"a": 0}, {"n": 2, "m": 0})], "0 0 0 1 1 1 0 1")
        self.check(found, "lost: s t at a c in 11 turns, row 2 7", [("s", {"a": 0}, zeros), ("t", {"b": 2, "c": 0}, zeros)],
                   [({"a": 0, "c": 0}, {"n": 2, "m": 7})], "0 0 0 1 1 1 1 1 1 0 1")

    def test_told_at_a_kept_key(self):
        found = discipline(TOLD, s="take a, look a; keep a", t="take b, look b, take a, look a; lock b")
        zeros = {"n": 0, "m": 0}
        self.check(found, "told: t s at b a in 8 turns, row 2 0", [("t", {"b": 0, "a": 1}, zeros), ("s", {"a": 0}, zeros)],
                   [({"a": 0, "b": 0}, {"n": 2, "m": 0})], "0 0 0 1 1 1 1 0")
        self.check(found, "told: t s at a a in 9 turns, row 2 0", [("t", {"b": 1, "a": 0}, zeros), ("s", {"a": 0}, zeros)],
                   [({"a": 0}, {"n": 2, "m": 0})], "0 0 0 0 1 1 1 1 0")

    def test_told_at_a_key_that_is_freed_before_its_look(self):
        found = discipline(TOLD, s="take a, look a; keep a", t="take b, take a, free a, look b, look a; lock b; keep a")
        zeros = {"n": 0, "m": 0}
        self.check(found, "doubled: s t at a in 9 turns", [("s", {"a": 0}, zeros), ("t", {"b": 2, "a": 0}, zeros)], [],
                   "1 1 1 0 0 1 1 0 1")
        self.check(found, "told: t s at a a in 10 turns, row 2 0", [("t", {"b": 1, "a": 0}, zeros), ("s", {"a": 0}, zeros)],
                   [({"a": 0}, {"n": 2, "m": 0})], "0 0 0 0 0 1 1 1 1 0")

    def test_told_has_the_least_content_for_the_second_condition_alone(self):
        text = "keys a\nfields n m\ns: a change; when m > 4; add n 1\nt: a change; when n > 1; add n 1, add m 1"
        found = discipline(text, s="take a, look a", t="take a, look a; lock a")
        sentences = [standing.sentence() for standing in standings(found)]
        self.assertEqual(sentences, [
            "lost: s s at a a in 8 turns, row 0 5", "lost: s t at a a in 9 turns, row 2 5",
            "told: s t at a a in 8 turns, row 2 0",
        ])
        zeros = {"n": 0, "m": 0}
        self.check(found, sentences[2], [("s", {"a": 0}, zeros), ("t", {"a": 0}, zeros)], [({"a": 0}, {"n": 2, "m": 0})],
                   "0 0 1 1 1 1 1 0")

    def test_the_row_of_a_meeting_at_one_key_and_at_two(self):
        found = discipline("keys b a\nfields n\ns: a change, b change; add n 1", s="take a, look a, take b, look b")
        lost = [standing for standing in standings(found) if standing.kind == "lost"]
        self.assertEqual([standing.path for standing in lost], [("a", "a"), ("a", "b"), ("b", "b")])
        rows = [standing.table().rows() for standing in lost]
        self.assertEqual(rows, [[({"a": 0}, {"n": 0})], [({"b": 0, "a": 0}, {"n": 0})], [({"b": 0}, {"n": 0})]])
        self.assertEqual([places for _, places, _ in lost[1].statements()], [{"a": 0, "b": 1}, {"a": 2, "b": 0}])

    def test_numbers_of_the_row_that_are_negative_or_great(self):
        text = f"keys a\nfields m n\ns: a change; when n < -7 and m > {10 ** 30}; add n 1"
        found = discipline(text, s="take a, look a")
        self.assertEqual([standing.sentence() for standing in standings(found)],
                         [f"lost: s s at a a in 8 turns, row {10 ** 30 + 1} -8"])
        self.assertEqual([standing.table().rows() for standing in standings(found)],
                         [[({"a": 0}, {"m": 10 ** 30 + 1, "n": -8})]])

    def test_stuck_in_rings_of_three_and_four(self):
        found = discipline(RING)
        zero = {"n": 0}
        self.check(found, "stuck: s t w at a b c in 6 turns",
                   [("s", {"a": 0, "b": 0}, zero), ("t", {"b": 0, "c": 0}, zero), ("w", {"c": 0, "a": 0}, zero)], [],
                   "0 0 1 1 2 2")
        self.check(found, "stuck: s t u v at a b c d in 8 turns",
                   [("s", {"a": 0, "b": 0}, zero), ("t", {"b": 0, "c": 0}, zero), ("u", {"c": 0, "d": 0}, zero),
                    ("v", {"d": 0, "a": 0}, zero)], [], "0 0 1 1 2 2 3 3")

    def test_stuck_where_shapes_carry_more_keys(self):
        found = discipline("keys a b c\nfields n\ns: c tell, a tell, b tell\nt: b tell, c tell, a tell")
        self.check(found, "stuck: s t at a b in 8 turns",
                   [("s", {"c": 1, "a": 0, "b": 0}, {"n": 0}), ("t", {"b": 0, "c": 2, "a": 0}, {"n": 0})], [],
                   "0 0 0 0 1 1 1 1")


class Drawn(Case):
    def test_point_72_each_weaving_leads_to_exactly_one_fault(self):
        rng = random.Random(72)
        kinds = {}
        for _ in range(60):
            found = drawn_discipline(rng, drawn_book(rng))
            every = list(standings(found))
            for standing in rng.sample(every, min(len(every), 20)):
                weaving = standing.weaving()
                self.assertIs(type(weaving), Weaving)
                self.assertEqual(len(weaving), standing.cost)
                self.assertTrue(goes_wrong(found, standing, weaving), standing.sentence())
                kinds[standing.kind] = kinds.get(standing.kind, 0) + 1
        self.assertEqual(len(kinds), 4)

    def test_point_72_each_weaving_is_the_least(self):
        rng = random.Random(721)
        kinds = {}
        while len(kinds) < 4 or min(kinds.values()) < 6:
            found = drawn_discipline(rng, drawn_book(rng, keys=2, shapes=2))
            for standing in standings(found):
                if standing.cost <= 8 and kinds.get(standing.kind, 0) < 12:
                    self.assertEqual(standing.weaving().turns, least_by_trying(found, standing), standing.sentence())
                    kinds[standing.kind] = kinds.get(standing.kind, 0) + 1

    def test_point_71_tables_and_statements(self):
        rng = random.Random(71)
        for _ in range(60):
            found = drawn_discipline(rng, drawn_book(rng))
            for standing in standings(found):
                self.check_statements(found.book, standing)

    def check_statements(self, book, standing):
        path = standing.path
        for writer, (name, places, content) in enumerate(standing.statements()):
            shared = {"doubled": path, "lost": path[writer:writer + 1], "told": path[writer:writer + 1],
                      "stuck": (path[writer % len(path)], path[(writer + 1) % len(path)])}[standing.kind]
            self.assertEqual(name, standing.names[writer])
            self.assertEqual(places, {key: 0 if key in shared else writer + 1 for key in book[name].carried})
            self.assertEqual(content, dict.fromkeys(book.field_names, 0))
        rows = standing.table().rows()
        if standing.kind in ("doubled", "stuck"):
            self.assertEqual(rows, [])
        else:
            self.assertEqual([places for places, _ in rows], [dict.fromkeys(path, 0)])
            numbers = " ".join(str(number) for number in rows[0][1].values())
            self.assertTrue(standing.sentence().endswith(f" turns, row {numbers}"))
            conditions = [book[name].condition for name in standing.names]
            met = conditions if standing.kind == "lost" else conditions[1:]
            self.assertTrue(all(condition(rows[0][1]) for condition in met))


class Keeping(Case):
    def told(self, standing):
        return (standing.kind, standing.names, standing.path, standing.cost, standing.sentence(), standing.statements(),
                standing.table().rows(), standing.weaving().turns)

    def setUp(self):
        self.found = discipline(TOLD + "\nu: a tell, b tell", s="take a, look a", t="take b, look b, take a, look a, free b")
        self.every = list(standings(self.found))

    def test_there_is_each_kind(self):
        self.assertEqual({standing.kind for standing in self.every}, {"doubled", "lost", "told", "stuck"})

    def test_point_72_later_changes_of_the_discipline(self):
        before = [self.told(standing) for standing in self.every]
        late = list(standings(self.found))
        self.found["s"] = Plan.read("take a, look a, free a; lock a")
        self.found["t"] = Plan.read("take b, take a, look b, look a; lock b a; keep b")
        self.found["u"] = Plan.read("take b, take a, look a, look b; lock b")
        # The second list was not asked for anything before the change.
        self.assertEqual([self.told(standing) for standing in late], before)
        self.assertEqual([self.told(standing) for standing in self.every], before)
        self.assertNotEqual([self.told(standing) for standing in standings(self.found)], before)

    def test_point_3_changes_of_what_was_returned(self):
        before = [self.told(standing) for standing in self.every]
        for standing in self.every:
            standing.table().enter({"a": 5}, {"n": 5, "m": 5})
            for statement in standing.statements():
                statement[1].clear()
                statement[2]["n"] = 77
            standing.statements().clear()
            if len(standing.table()):
                standing.table().write(0, "n", 99)
            weaving = standing.weaving()
            weaving += Weaving([0])
        self.assertEqual([self.told(standing) for standing in self.every], before)

    def test_kinds_of_values(self):
        for standing in self.every:
            self.assertIsInstance(standing, Standing)
            self.assertIs(isinstance(standing, Meeting), standing.kind in ("lost", "told"))
            self.assertIs(type(standing.names), tuple)
            self.assertIs(type(standing.path), tuple)
            self.assertIs(type(standing.table()), Table)
            self.assertIs(type(standing.statements()), list)
            self.assertTrue(all(type(statement) is tuple for statement in standing.statements()))

    def test_asking_twice_and_in_any_order(self):
        one, two = list(standings(self.found)), list(standings(self.found))
        for first, second in zip(one, two):
            first.weaving()
            self.assertEqual(self.told(first), self.told(second))
