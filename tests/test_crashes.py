"""Crashes: point 87."""

from elseput.machine import Machine
from elseput.plans import Plan
from elseput.replays import replay
from elseput.retrying import RetryingMachine
from elseput.tables import Table
from tests.helpers import Case, discipline, state, table

BOOK = """keys a b
fields n m
both: a change, b change; add n 1, set m 7
only: a change; add n 10
seen: a tell
back: b change, a change; set n 0"""
BARE = {"both": "look a, look b", "only": "look a", "seen": "look a", "back": "look b, look a"}


def statement(name, n=0, m=0, **places):
    return (name, places, {"n": n, "m": m})


class Crashes(Case):
    def machine(self, *ones, rows=(), kind=Machine, **plans):
        found = discipline(BOOK, **plans)
        return kind(found, table(found.book, *rows), list(ones))

    def numbers(self, found):
        return [tuple(content.values()) for _, content in found.rows()]

    def test_point_87_unfinished(self):
        machine = self.machine(statement("seen", a=1), statement("seen", a=2), statement("seen", a=1))
        self.assertEqual(machine.unfinished, [0, 1, 2])
        machine.play([1, 1, 1, 0, 2])
        self.assertEqual(machine.unfinished, [0, 2])
        machine.settle()
        self.assertEqual(machine.unfinished, [])
        self.assertEqual(self.machine().unfinished, [])

    def test_point_87_a_writer_that_has_written_one_of_two_fields(self):
        machine = self.machine(statement("both", a=1, b=1), rows=[({"a": 2}, (1, 1)), ({"a": 1}, (3, 4))])
        machine.play([0, 0, 0])
        for now, recovered in (((3, 4), (3, 4)), ((4, 4), (3, 4)), ((4, 7), (4, 7))):
            machine(0)
            self.assertEqual(self.numbers(machine), [(1, 1), now])
            self.assertEqual(self.numbers(machine.recovered()), [(1, 1), recovered])

    def test_point_87_a_row_that_was_put_is_recovered_without_unfinished_writes(self):
        machine = self.machine(statement("seen", 5, 6, a=1), statement("both", a=1, b=1))
        machine.play([0, 0, 0, 1, 1, 1, 1, 1])
        self.assertEqual((self.numbers(machine), self.numbers(machine.recovered())), ([(6, 6)], [(5, 6)]))
        machine(1)
        self.assertEqual(machine.recovered().rows(), [({"a": 1}, {"n": 6, "m": 7})])

    def test_point_87_the_writes_of_ended_writers_in_the_order_of_their_turns(self):
        rows = [({"a": 1}, (1, 1))]
        ones = [statement("only", a=1), statement("back", a=1, b=1), statement("both", a=1, b=1)]
        machine = self.machine(*ones, rows=rows, **BARE)
        machine.play([0, 0, 1, 1, 1, 2, 2, 1, 0])
        self.assertEqual(self.numbers(machine.recovered()), [(11, 1)])
        machine.play([2])
        self.assertEqual((self.numbers(machine), self.numbers(machine.recovered())), ([(2, 1)], [(11, 1)]))
        machine.play([2])
        self.assertEqual(self.numbers(machine.recovered()), [(2, 7)])

    def test_point_87_a_later_write_of_a_writer_that_ends_first(self):
        machine = self.machine(statement("both", a=1, b=1), statement("only", a=1), rows=[({"a": 1}, (1, 1))], **BARE)
        machine.play([0, 0, 0, 1, 1, 1])
        self.assertEqual((self.numbers(machine), self.numbers(machine.recovered())), ([(12, 1)], [(12, 1)]))
        machine.play([0])
        self.assertEqual(self.numbers(machine.recovered()), [(12, 7)])

    def test_point_87_the_recovered_table_has_the_keys_and_fields(self):
        machine = self.machine(rows=[({"b": 3}, (1, 2))])
        found = machine.recovered()
        self.assertIs(type(found), Table)
        self.assertEqual((found["b", 3], found["a", 3], len(found)), (0, None, 1))
        self.assertEqual(found.put({"a": 1}, {"n": 1, "m": 1}), 1)

    def test_points_3_and_87_the_recovered_table_is_new(self):
        machine = self.machine(statement("seen", a=1), rows=[({"b": 3}, (1, 2))])
        before = state(machine)
        found = machine.recovered()
        found.write(0, "n", 9)
        found.put({"a": 1}, {"n": 1, "m": 1})
        self.assertEqual(state(machine), before)
        machine.settle()
        self.assertEqual(len(found), 2)
        self.assertEqual(found.content_of(0), {"n": 9, "m": 2})

    def test_point_87_a_resumed_machine(self):
        rows = [({"a": 1}, (3, 4))]
        ones = [statement("both", a=1, b=1), statement("seen", 8, 9, a=2), statement("only", 1, 2, a=2)]
        machine = self.machine(*ones, rows=rows)
        machine.play([0, 0, 0, 0, 0, 1, 1, 1, 2])
        before = state(machine)
        again = machine.resumed()
        self.assertEqual(state(machine), before)
        self.assertIs(type(again), Machine)
        self.assertEqual((again.events, again.faults, again.outcomes), ([], [], [None, None]))
        self.assertEqual((again.unfinished, again.held(0), again.held(1)), ([0, 1], [], []))
        self.assertEqual(again.rows(), [({"a": 1}, {"n": 3, "m": 4}), ({"a": 2}, {"n": 8, "m": 9})])
        self.assertEqual(again.play([1, 1, 0]), [(1, "take", "a"), (1, "find", 1), (0, "take", "a")])
        again.settle()
        self.assertEqual(again.outcomes, [("changed", 0, (4, 7)), ("changed", 1, (18, 9))])
        self.assertEqual(state(machine), before)

    def test_point_87_a_resumed_machine_has_the_plans(self):
        found = discipline(BOOK, seen="take a, look a, free a; keep a")
        machine = Machine(found, table(found.book), [statement("seen", a=1), statement("only", a=2)])
        found["seen"] = Plan.read("look a")
        found["only"] = Plan.read("look a")
        again = machine.resumed().resumed()
        events = again.play([0, 0, 0, 1])
        self.assertEqual(events, [(0, "take", "a"), (0, "look", "a"), (0, "free", "a"), (1, "take", "a")])

    def test_point_87_a_machine_that_has_ended_is_resumed_without_writers(self):
        machine = self.machine(statement("seen", a=1))
        machine.settle()
        again = machine.resumed()
        self.assertEqual((again.outcomes, again.ended, again.rows()), ([], True, machine.rows()))

    def test_point_87_resuming_a_stuck_machine(self):
        for kind in (Machine, RetryingMachine):
            machine = self.machine(statement("both", a=1, b=1), statement("back", a=1, b=1), kind=kind)
            machine.play([0, 0, 1, 1])
            again = machine.resumed()
            self.assertIs(type(again), kind)
            self.assertEqual((again.unfinished, again.stuck, again.rows()), ([0, 1], False, []))
            again.play([0] * 5 + [1] * 5)
            self.assertEqual(again.outcomes, [("put", 0, (0, 0)), ("changed", 0, (0, 0))])

    def test_point_87_a_machine_that_is_left_and_resumed_at_each_turn(self):
        rows = [({"a": 1, "b": 2}, (3, 4))]
        plans = {"back": "take a, take b, look b, look a; lock b a"}
        ones = [statement("both", a=1, b=2), statement("back", a=5, b=2), statement("both", a=7, b=7),
                statement("seen", a=1)]
        for left in range(26):
            machine = self.machine(*ones, rows=rows, **plans)
            turns = [0, 2, 1, 3, 0, 2, 1, 3, 0, 2, 1, 3, 0, 2, 1, 3, 0, 2, 1, 3, 0, 1, 3, 1, 1, 3]
            machine.play(turns[:left])
            again = machine.resumed()
            self.assertEqual(len(again.outcomes), len(machine.unfinished))
            again.settle()
            self.assertIs(again.ended, True)
            order = [*machine.order, *[machine.unfinished[writer] for writer in again.order]]
            found = discipline(BOOK)
            found_rows, outcomes = replay(found.book, table(found.book, *rows), ones, order)
            self.assertEqual(found_rows, again.rows())
            for at, writer in enumerate(machine.unfinished):
                self.assertEqual(again.outcomes[at], outcomes[writer])
