"""Undo: point 89."""

from elseput.errors import BadNumber
from elseput.machine import Machine
from elseput.retrying import RetryingMachine
from elseput.weavings import Weaving
from tests.helpers import BOUND, Case, discipline, state, table

BOOK = """keys a b
fields n m
both: a change, b change; when n < 9; add n 1, set m 7
back: b change, a change; set n 0
seen: a tell
new: b refuse"""
PLANS = {"both": "take a, look a, free a, take b, look b; lock a; keep b"}


def statement(name, n=0, m=0, **places):
    return (name, places, {"n": n, "m": m})


ONES = [
    statement("both", a=1, b=1), statement("both", a=2, b=2), statement("seen", a=1), statement("new", b=5),
    statement("both", a=3, b=5), statement("back", a=8, b=1), statement("seen", 4, 4, a=9),
]
ROWS = [({"a": 1, "b": 1}, (0, 0)), ({"b": 5}, (9, 9))]


class Undo(Case):
    def machine(self, ones=ONES, rows=ROWS, kind=Machine, plans=PLANS):
        found = discipline(BOOK, **plans)
        return kind(found, table(found.book, *rows), ones)

    def states(self, machine, turns):
        """The state before the turns and behind each of them."""
        found = [state(machine)]
        for writer in turns:
            machine(writer)
            found.append(state(machine))
        return found

    def test_point_89_each_kind_of_turn(self):
        machine = self.machine()
        turns = [
            0, 2, 0, 2, 0, 2, 5, 5, 0, 2, 0, 5, 0, 2, 2, 1, 1, 1, 1, 1, 1, 1, 3, 3, 4, 4, 4, 4, 4, 4, 5, 5, 5, 5, 6, 6,
            6, 6,
        ]
        found = self.states(machine, turns)
        self.assertEqual({deed for _, deed, _ in machine.events}, {
            "take", "free", "look", "find", "refuse", "put", "lock", "tell", "pass", "read", "write", "wait", "idle",
        })
        for at in range(len(turns), 0, -1):
            with self.subTest(event=machine.events[-1]):
                weaving = machine.undo(1)
                self.assertEqual(weaving.turns, (turns[at - 1],))
                self.assertEqual(state(machine), found[at - 1])
                machine.play(weaving)
                self.assertEqual(state(machine), found[at])
                machine.undo(1)

    def test_point_89_several_turns(self):
        turns = [0, 2, 0, 2, 0, 2, 0, 0, 0, 2, 2, 1, 1, 3, 3, 4]
        for count in (0, 1, 2, 5, 9, 15, 16):
            machine = self.machine()
            found = self.states(machine, turns)
            weaving = machine.undo(count)
            self.assertIs(type(weaving), Weaving)
            self.assertEqual(weaving.turns, tuple(turns[len(turns) - count:]))
            self.assertEqual(state(machine), found[len(turns) - count])
            machine.play(weaving)
            self.assertEqual(state(machine), found[-1])

    def test_point_89_all_turns(self):
        machine = self.machine()
        before = state(machine)
        machine.settle()
        after, many = state(machine), len(machine.events)
        weaving = machine.undo(many)
        self.assertEqual((len(weaving), state(machine)), (many, before))
        machine.play(weaving)
        self.assertEqual(state(machine), after)

    def test_point_89_none(self):
        machine = self.machine()
        self.assertEqual(machine.undo(0).turns, ())
        machine.play([0, 1])
        before = state(machine)
        self.assertEqual(machine.undo(0).turns, ())
        self.assertEqual(state(machine), before)

    def test_point_89_bad_numbers(self):
        for kind in (Machine, RetryingMachine):
            machine = self.machine(kind=kind)
            self.fails(BadNumber, {"value": 1}, machine.undo, 1)
            machine.play([0, 1, 0])
            before = state(machine)
            for count in (-1, 4, 100, -3, BOUND):
                self.fails(BadNumber, {"value": count}, machine.undo, count)
                self.assertEqual(state(machine), before)

    def test_point_89_undo_twice(self):
        machine = self.machine()
        found = self.states(machine, [0, 0, 1, 2, 0])
        self.assertEqual((machine.undo(2).turns, machine.undo(2).turns), ((2, 0), (0, 1)))
        self.assertEqual(state(machine), found[1])
        self.fails(BadNumber, {"value": 2}, machine.undo, 2)

    def test_point_89_another_way_behind_undone_turns(self):
        machine, other = self.machine(), self.machine()
        machine.play([0, 2, 0, 0, 0, 0, 2])
        machine.undo(5)
        machine.play([2, 0, 2, 2, 0])
        other.play([0, 2, 2, 0, 2, 2, 0])
        self.assertEqual(state(machine), state(other))

    def test_point_89_faults_are_taken_back(self):
        bare = {"both": "look a, look b"}
        ones = [statement("both", a=1, b=1), statement("both", a=1, b=1)]
        machine = self.machine(ones, [], plans=bare)
        machine.play([0, 0, 1, 1, 0, 1])
        self.assertEqual(machine.faults, [("doubled", 5, 1, 1)])
        machine.undo(1)
        self.assertEqual((machine.faults, len(machine.rows())), ([], 1))
        lost = self.machine(ones, ROWS, plans=bare)
        lost.play([0, 0, 1, 1, 0, 0, 1])
        self.assertEqual(lost.faults, [("lost", 6, 1, 0)])
        lost.undo(4)
        self.assertEqual((lost.faults, lost.rows()[0][1]), ([], {"n": 0, "m": 0}))
        lost.play([1, 0, 1])
        self.assertEqual(lost.faults, [("lost", 5, 1, 0)])

    def test_point_89_stuck_is_taken_back(self):
        ones = [statement("both", a=1, b=1), statement("back", a=1, b=1)]
        machine = self.machine(ones, [], plans={})
        found = self.states(machine, [0, 0, 1, 1, 1, 0])
        self.assertEqual((machine.stuck, machine.faults), (True, [("stuck", 3, 1, None)]))
        machine.undo(2)
        self.assertEqual(state(machine), found[4])
        machine.undo(1)
        self.assertEqual((machine.stuck, machine.faults, machine.ring), (False, [], []))
        machine(1)
        self.assertEqual(state(machine), found[4])

    def test_point_89_undone_turns_and_the_resumed_machine(self):
        machine = self.machine()
        machine.settle()
        self.assertEqual(machine.resumed().outcomes, [])
        machine.undo(len(machine.events))
        again = machine.resumed()
        self.assertEqual((len(again.outcomes), again.rows()), (7, machine.rows()))
