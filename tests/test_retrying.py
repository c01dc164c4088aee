"""Retrying: points 90 to 92."""

import random

from elseput.machine import Machine
from elseput.retrying import RetryingMachine
from elseput.weavings import Weaving
from tests.helpers import Case, discipline, state, table

BOOK = """keys a b c
fields n m
ab: a change, b change; add n 1, set m 7
ba: b change, a change; set n 0
bc: b change, c change; add m 1
bca: b tell, c tell, a tell
ca: c tell, a tell
one: a tell"""
EXAMPLE = "keys a b\nfields n\nvisit: a change, b change; add n 1\nreset: b change, a change; set n 0"


def statement(name, **places):
    return (name, places, {"n": 0, "m": 0})


def pair(name, value=1):
    return statement(name, **{key: value for key in name})


def key(name, value=1):
    return ("key", name, value)


class Machines(Case):
    def machine(self, *ones, kind=Machine, rows=(), **plans):
        found = discipline(BOOK, **plans)
        return kind(found, table(found.book, *rows), list(ones))


class Rings(Machines):
    def test_point_90_two_writers(self):
        machine = self.machine(pair("ab"), pair("ba"))
        machine.play([1, 1, 0])
        self.assertEqual(machine.ring, [])
        machine(0)
        self.assertEqual((machine.stuck, machine.ring), (True, [0, 1]))

    def test_point_90_three_writers(self):
        machine = self.machine(pair("ab"), pair("bc"), pair("ca"))
        machine.play([0, 1, 2, 2, 1, 0])
        self.assertEqual((machine.stuck, machine.ring), (True, [0, 1, 2]))

    def test_point_90_behind_each_writer_the_holder_of_what_it_waits_for(self):
        machine = self.machine(pair("ca"), pair("bc"), pair("ab"))
        machine.play([0, 0, 1, 1, 2, 2])
        self.assertEqual((machine.stuck, machine.ring), (True, [0, 2, 1]))

    def test_point_90_the_least_writer_of_the_ring_is_first(self):
        machine = self.machine(statement("one", a=5), pair("ca"), statement("one", a=6), pair("bc"), pair("ab"))
        machine.play([0, 0, 0, 4, 4, 3, 3, 2, 2, 2, 1, 1])
        self.assertEqual((machine.unfinished, machine.ring), ([1, 3, 4], [1, 4, 3]))

    def test_point_90_a_writer_that_waits_for_the_ring_is_not_in_it(self):
        for first in (statement("one", a=1), statement("ba", a=2, b=1)):
            machine = self.machine(first, pair("ab"), pair("ba"))
            machine.play([1, 1, 2, 2, 0])
            self.assertEqual((machine.stuck, machine.waiting, machine.ring), (True, [0, 1, 2], [1, 2]))

    def test_point_90_a_chain_of_writers_that_leads_to_the_ring(self):
        ones = [statement("ab", a=9, b=9), statement("ba", a=1, b=9), pair("ba"), pair("ab")]
        machine = self.machine(*ones)
        machine.play([1, 1, 2, 3, 2, 3, 0, 0])
        self.assertEqual((machine.stuck, machine.ring), (True, [2, 3]))
        self.assertEqual([machine(writer)[2] for writer in range(4)], [key("b", 9), key("a"), key("a"), key("b")])

    def test_point_90_two_rings(self):
        machine = self.machine(pair("ab", 2), pair("ab"), pair("ba"), pair("ba", 2))
        machine.play([1, 1, 2, 2, 0, 0, 3, 3])
        self.assertEqual((machine.stuck, machine.ring), (True, [0, 3]))

    def test_point_90_no_ring_while_somebody_can_go_on(self):
        machine = self.machine(pair("ab"), pair("ba"), statement("one", a=5))
        machine.play([0, 0, 1, 1])
        self.assertEqual((machine.waiting, machine.ring), ([0, 1], []))
        machine.play([2, 2, 2])
        self.assertEqual(machine.ring, [0, 1])
        self.assertEqual(self.machine().ring, [])
        ended = self.machine(pair("ab"))
        ended.settle()
        self.assertEqual(ended.ring, [])


class Restarts(Machines):
    def retrying(self, *ones, **more):
        return self.machine(*ones, kind=RetryingMachine, **more)

    def test_point_91_a_retrying_machine_is_a_machine(self):
        machine = self.retrying(pair("ab"))
        self.assertIsInstance(machine, Machine)
        self.assertEqual(machine.restarts, [])
        self.assertEqual(machine.settle(), 5)
        self.assertEqual(machine.restarts, [])

    def test_point_91_the_turn_of_a_restart(self):
        machine = self.retrying(pair("ab"), pair("ba"))
        events = machine.play([0, 0, 1, 1])
        self.assertEqual(events, [(0, "take", "a"), (0, "look", "a"), (1, "take", "b"), (1, "look", "b")])
        self.assertEqual((machine.faults, machine.restarts), ([("stuck", 3, 1, None)], [(3, 1)]))
        self.assertEqual((machine.stuck, machine.ring, machine.waiting, machine.unfinished), (False, [], [], [0, 1]))
        self.assertEqual((machine.held(0), machine.held(1)), ([key("a")], []))

    def test_point_91_the_greatest_writer_is_restarted_although_another_one_had_the_turn(self):
        machine = self.retrying(pair("ab"), pair("ba"))
        machine.play([1, 1, 0])
        self.assertEqual(machine(0), (0, "look", "a"))
        self.assertEqual((machine.faults, machine.restarts), ([("stuck", 3, 0, None)], [(3, 1)]))
        self.assertEqual(machine.play([1, 0]), [(1, "take", "b"), (0, "wait", key("b"))])

    def test_point_91_a_restarted_writer_begins_again(self):
        machine = self.retrying(pair("ab"), pair("ba"))
        machine.play([0, 0, 1, 1])
        self.assertEqual(machine.play([1, 0]), [(1, "take", "b"), (0, "wait", key("b"))])
        self.assertEqual(machine.play([1, 1]), [(1, "look", "b"), (1, "take", "b")])
        self.assertEqual(machine.restarts, [(3, 1), (6, 1)])
        self.assertEqual(machine.faults, [("stuck", 3, 1, None), ("stuck", 6, 1, None)])

    def test_point_91_a_restart_frees_all_places(self):
        machine = self.retrying(pair("ab"), pair("bca"), bca="take c, take b, look b, look c, take a, look a")
        machine.play([0, 0, 1, 1, 1])
        self.assertEqual((machine.held(1), machine.restarts), ([key("c"), key("b")], []))
        machine(1)
        self.assertEqual((machine.held(0), machine.held(1), machine.restarts), ([key("a")], [], [(5, 1)]))
        self.assertEqual(machine.play([1, 1, 1, 0]), [
            (1, "take", "c"), (1, "take", "b"), (1, "look", "b"), (0, "wait", key("b")),
        ])

    def test_point_91_the_greatest_writer_of_the_ring_and_not_of_all(self):
        machine = self.retrying(pair("ab"), pair("ba"), statement("one", a=1))
        machine.play([0, 0, 1])
        self.assertEqual(machine.waiting, [0, 2])
        machine(1)
        self.assertEqual((machine.faults, machine.restarts), ([("stuck", 3, 1, None)], [(3, 1)]))

    def test_point_91_three_writers(self):
        machine = self.retrying(pair("ca"), pair("bc"), pair("ab"))
        machine.play([2, 2, 1, 1, 0, 0])
        self.assertEqual((machine.restarts, machine.held(2)), ([(5, 2)], []))
        self.assertEqual((machine.waiting, machine.held(0), machine.held(1)), ([1], [key("c")], [key("b")]))
        machine.settle()
        self.assertIs(machine.ended, True)

    def test_point_91_the_turn_of_a_writer_outside_of_the_ring(self):
        ones = [pair("ab"), pair("ba"), statement("one", a=5), statement("one", a=5)]
        machine = self.retrying(*ones, rows=[({"a": 5}, (1, 2))])
        machine.play([0, 0, 1, 1, 2, 2, 2, 2, 3, 3, 3, 3])
        self.assertEqual((machine.faults, machine.restarts), ([("stuck", 11, 3, None)], [(11, 1)]))
        self.assertEqual(machine.outcomes[2:], [("told", 0, (1, 2)), ("told", 0, (1, 2))])

    def test_point_91_stuck_again_is_a_fault_again(self):
        machine = self.retrying(pair("ab"), pair("ba"))
        machine.play([0, 0, 1, 1, 1, 1])
        self.assertEqual(machine.faults, [("stuck", 3, 1, None), ("stuck", 5, 1, None)])
        self.assertEqual(machine.restarts, [(3, 1), (5, 1)])
        self.assertEqual([deed for _, deed, _ in machine.events], ["take", "look"] * 3)

    def test_point_91_restarts_are_undone(self):
        machine = self.retrying(pair("ab"), pair("ba"))
        turns = [0, 0, 1, 1, 1, 1, 0, 0, 1, 0]
        found = [state(machine)]
        for writer in turns:
            machine(writer)
            found.append(state(machine))
        self.assertEqual(machine.restarts, [(3, 1), (5, 1)])
        for at in range(len(turns), 0, -1):
            weaving = machine.undo(1)
            self.assertEqual((weaving.turns, state(machine)), ((turns[at - 1],), found[at - 1]))
            machine.play(weaving)
            self.assertEqual(state(machine), found[at])
            machine.undo(1)
        self.assertEqual(machine.restarts, [])
        machine.play(Weaving(turns))
        machine.undo(6)
        self.assertEqual((machine.restarts, state(machine)), ([(3, 1)], found[4]))

    def test_point_91_a_resumed_retrying_machine_is_one(self):
        machine = self.retrying(pair("ab"), pair("ba"), statement("one", a=7))
        machine.play([2, 2, 2, 0, 0, 1, 1])
        again = machine.resumed()
        self.assertIs(type(again), RetryingMachine)
        self.assertEqual((again.restarts, again.events, again.unfinished), ([], [], [0, 1]))
        again.play([0, 0, 1, 1])
        self.assertEqual((again.restarts, machine.restarts), ([(3, 1)], [(6, 1)]))
        self.assertIs(type(self.machine(pair("ab")).resumed()), Machine)

    def test_points_3_and_91_the_restarts_are_a_new_list(self):
        machine = self.retrying(pair("ab"), pair("ba"))
        machine.play([0, 0, 1, 1])
        machine.restarts.append((9, 9))
        self.assertEqual(machine.restarts, [(3, 1)])
        self.assertIs(type(machine.restarts[0]), tuple)


class Settling(Machines):
    def test_point_92_the_example_of_point_98(self):
        found = discipline(EXAMPLE)
        ones = [("visit", {"a": 0, "b": 0}, {"n": 0}), ("reset", {"a": 0, "b": 0}, {"n": 0})]
        turns = Weaving.read("0 0 1 1")
        plain = Machine(found, table(found.book), ones)
        plain.play(turns)
        self.assertEqual((plain.stuck, plain.ring), (True, [0, 1]))
        machine = RetryingMachine(found, table(found.book), ones)
        machine.play(turns)
        self.assertEqual(machine.restarts, [(3, 1)])
        self.assertEqual(machine.settle(), 8)
        self.assertEqual(machine.events[4:], [
            (0, "take", "b"), (0, "look", "b"), (0, "put", 0), (1, "take", "b"), (1, "find", 0), (1, "lock", 0),
            (1, "read", 0), (1, "write", "n"),
        ])
        self.assertIs(machine.ended, True)

    def test_point_92_two_shapes_that_take_two_keys_in_opposite_orders(self):
        for first in range(2 ** 7):
            machine = self.machine(pair("ab"), pair("ba"), kind=RetryingMachine)
            machine.play([first >> bit & 1 for bit in range(7)])
            machine.settle()
            self.assertEqual((machine.ended, machine.stuck, machine.unfinished), (True, False, []))
            self.assertEqual(len(machine.rows()), 1)

    def test_point_92_settle_ends_all_writers_at_any_time(self):
        draw = random.Random(92)
        names = ["ab", "ba", "bc", "ca"]
        restarts = 0
        for _ in range(150):
            ones = [pair(draw.choice(names), draw.randint(1, 2)) for _ in range(draw.randint(2, 6))]
            rows = [({"a": 2}, (1, 1))] if draw.random() < 0.5 else []
            machine = self.machine(*ones, kind=RetryingMachine, rows=rows)
            machine.play([draw.randrange(len(ones)) for _ in range(draw.randint(0, 30))])
            self.assertIs(machine.stuck, False)
            machine.settle()
            self.assertEqual((machine.ended, machine.stuck), (True, False))
            self.assertNotIn(None, machine.outcomes)
            self.assertTrue(len(machine.restarts) >= len([kind for kind, *_ in machine.faults if kind == "stuck"]))
            restarts += len(machine.restarts)
        self.assertGreater(restarts, 20)
