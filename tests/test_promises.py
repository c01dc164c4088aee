"""What the document promises over the whole program, with drawn statements, turns and tables: points 74, 75, 85, 88, 92."""

import random

from elseput.disciplines import Discipline
from elseput.judging import judge
from elseput.least import lazy, least
from elseput.machine import Machine
from elseput.orders import every_order
from elseput.parts import fault_kinds
from elseput.replays import replay
from elseput.retrying import RetryingMachine
from elseput.rollouts import strictest
from tests.helpers import (
    Case, discipline, drawn_book, drawn_discipline, drawn_plan, drawn_statements, drawn_table, state, table,
)


def drawn_safe(rng, book):
    """A discipline that is safe."""
    orders = list(every_order(book.key_names))
    return rng.choice((least, lambda book: lazy(book, rng.choice(orders)), lambda book: strictest(book, rng.choice(orders))))(book)


def nearly_safe(rng, book):
    """A discipline that would be safe but for the plan of one shape."""
    found = drawn_safe(rng, book)
    if len(book):
        shape = rng.choice(list(book))
        found[shape.name] = drawn_plan(rng, shape)
    return found


def play(rng, machine, turns):
    """Give so many turns to drawn writers, often several to the same one."""
    writers = range(len(machine.outcomes))
    while turns > 0 and writers:
        writer = rng.choice(writers)
        for _ in range(rng.choice((1, 1, 2, 5))):
            machine(writer)
            turns -= 1


def turns_of(machine):
    return [event[0] for event in machine.events]


class Safe(Case):
    def test_point_74_no_faults_and_the_results_of_one_at_a_time(self):
        rng = random.Random(74)
        for at in range(120):
            book = drawn_book(rng)
            found = drawn_safe(rng, book)
            self.assertTrue(judge(found).safe)
            rows, ones = drawn_table(rng, book), drawn_statements(rng, book, most=6)
            machine = (Machine, RetryingMachine)[at % 2](found, rows, ones)
            play(rng, machine, rng.randint(0, 60))
            self.assertFalse(machine.stuck)
            machine.settle()
            self.assertTrue(machine.ended)
            self.assertEqual(machine.faults, [])
            self.assertEqual(replay(book, rows, ones, machine.order), (machine.rows(), machine.outcomes))

    def test_point_74_drawn_disciplines_that_are_judged_safe(self):
        rng = random.Random(740)
        safe = 0
        while safe < 40:
            book = drawn_book(rng, shapes=3)
            found = rng.choice((drawn_discipline, nearly_safe))(rng, book)
            if judge(found).safe and len(book):
                safe += 1
                rows, ones = drawn_table(rng, book), drawn_statements(rng, book, most=6)
                machine = Machine(found, rows, ones)
                play(rng, machine, rng.randint(0, 60))
                machine.settle()
                self.assertEqual((machine.ended, machine.faults), (True, []))
                self.assertEqual(replay(book, rows, ones, machine.order), (machine.rows(), machine.outcomes))


class NotSafe(Case):
    def test_points_75_and_85_the_faults(self):
        rng = random.Random(75)
        met = set()
        tried = 0
        while tried < 150 or len(met) < 4:
            book = drawn_book(rng, keys=3, shapes=3)
            found = rng.choice((drawn_discipline, nearly_safe))(rng, book)
            standing, kinds = judge(found).standing, fault_kinds(found)
            if standing is None:
                continue
            tried += 1
            for kind in (Machine, RetryingMachine):
                # With few shapes and values, writers often meet.
                machine = kind(found, drawn_table(rng, book, most=2), drawn_statements(rng, book, most=6))
                play(rng, machine, 60)
                machine.settle()
                faults = machine.faults
                for at, (fault, turn, _, _) in enumerate(faults):
                    met.add(fault)
                    self.assertTrue(turn + 1 >= standing.cost)
                    self.assertTrue(fault in kinds or (at > 0 and fault == "lost" and "told" in kinds), (faults, kinds))

    def test_point_75_the_least_cost_is_reached(self):
        rng = random.Random(750)
        for _ in range(60):
            found = drawn_discipline(rng, drawn_book(rng))
            standing = judge(found).standing
            if standing is not None:
                machine = Machine(found, standing.table(), standing.statements())
                machine.play(standing.weaving().turns[:-1])
                self.assertEqual(machine.faults, [])
                machine.play(standing.weaving().turns[-1:])
                self.assertEqual([fault[1] for fault in machine.faults], [standing.cost - 1])

    def test_point_85_a_later_fault_may_be_lost_though_it_is_no_kind(self):
        # The first fault makes the second writer change a row on which the condition does not hold between two writes.
        text = "keys a b\nfields n m\ns: a change; when m == 0 and n == 0; set n 5, set m 1\nt: b change; when n == 5 and m == 0; add m 1"
        found = discipline(text, s="take a, look a; keep a", t="take b, look b; keep b")
        self.assertEqual(fault_kinds(found), ["told"])
        machine = Machine(found, table(found.book, ({"a": 1, "b": 1}, (0, 0))),
                          [("s", {"a": 1}, {"n": 0, "m": 0}), ("t", {"b": 1}, {"n": 0, "m": 0})])
        machine.play([0, 0, 0, 0, 1, 1, 1, 0, 1])
        self.assertEqual(machine.faults, [("told", 6, 1, 0), ("lost", 8, 1, 0)])


class Crashes(Case):
    def drawn(self, rng):
        """A discipline with no kinds of faults, or only with stuck."""
        kinds = rng.choice(([], ["stuck"], ["stuck"]))
        while True:
            book = drawn_book(rng, shapes=4)
            found = Discipline(book) if rng.random() < 0.4 else rng.choice((mixed, nearly_safe))(rng, book)
            if fault_kinds(found) == kinds:
                return found

    def check(self, found, rows, ones, machine):
        recovered = machine.recovered()
        self.assertEqual(replay(found.book, rows, ones, machine.order), (recovered.rows(), machine.outcomes))

    def test_point_88_at_any_moment(self):
        rng = random.Random(88)
        stuck = 0
        for at in range(160):
            found = self.drawn(rng)
            rows, ones = drawn_table(rng, found.book), drawn_statements(rng, found.book, most=6)
            machine = (Machine, RetryingMachine)[at % 2](found, rows, ones)
            for _ in range(8):
                self.check(found, rows, ones, machine)
                play(rng, machine, rng.randint(1, 8))
            machine.settle()
            self.check(found, rows, ones, machine)
            stuck += len(machine.faults) > 0
        self.assertTrue(stuck > 3)

    def test_point_88_left_and_resumed_any_number_of_times(self):
        rng = random.Random(880)
        for at in range(80):
            found = self.drawn(rng)
            rows, ones = drawn_table(rng, found.book), drawn_statements(rng, found.book, most=6)
            machine = (Machine, RetryingMachine)[at % 2](found, rows, ones)
            numbers = list(range(len(ones)))
            order, outcomes = [], {}
            while numbers:
                play(rng, machine, rng.randint(0, 25))
                order += [numbers[writer] for writer in machine.order]
                outcomes.update({numbers[writer]: machine.outcomes[writer] for writer in machine.order})
                numbers = [numbers[writer] for writer in machine.unfinished]
                machine = machine.resumed()
                self.assertEqual(len(machine.outcomes), len(numbers))
            self.assertEqual(sorted(order), list(range(len(ones))))
            expected = replay(found.book, rows, ones, order)
            self.assertEqual((machine.rows(), [outcomes[number] for number in range(len(ones))]), expected)


def mixed(rng, book):
    """A discipline whose plans are those of lazy disciplines, each for an order of its own."""
    found = least(book)
    orders = list(every_order(book.key_names))
    for shape in book:
        found[shape.name] = lazy(book, rng.choice(orders))[shape.name]
    return found


class Retrying(Case):
    def test_point_92_settle_ends_all_writers(self):
        rng = random.Random(92)
        restarts = 0
        for _ in range(200):
            book = drawn_book(rng)
            found = rng.choice((drawn_discipline, mixed))(rng, book)
            machine = RetryingMachine(found, drawn_table(rng, book), drawn_statements(rng, book, most=8))
            play(rng, machine, rng.randint(0, 40))
            self.assertFalse(machine.stuck)
            machine.settle()
            self.assertTrue(machine.ended)
            self.assertEqual([turn for turn, _ in machine.restarts],
                             [fault[1] for fault in machine.faults if fault[0] == "stuck"])
            restarts += len(machine.restarts)
        self.assertTrue(restarts > 5)

    def test_point_92_no_restarts_where_an_order_is_obeyed(self):
        rng = random.Random(920)
        obeying = 0
        while obeying < 50:
            book = drawn_book(rng)
            found = drawn_discipline(rng, book)
            if judge(found).order is None:
                continue
            obeying += 1
            rows, ones = drawn_table(rng, book), drawn_statements(rng, book, most=6)
            machine, plain = RetryingMachine(found, rows, ones), Machine(found, rows, ones)
            play(rng, machine, 30)
            machine.settle()
            plain.play(turns_of(machine))
            self.assertEqual(machine.restarts, [])
            self.assertEqual({**state(machine), "restarts": None}, state(plain))
