"""The faults of a machine: point 60."""

from elseput.machine import Machine
from elseput.retrying import RetryingMachine
from tests.helpers import Case, discipline, table

BOOK = """keys a b
fields n m
both: a change, b change; add n 1, add m 1
only: a change, b change; when n < 3; add n 1
seen: a tell
back: b change, a change; set n 0"""
BARE = {"both": "look a, look b", "only": "look a, look b", "seen": "look a", "back": "look b, look a"}


def statement(name, n=0, m=0, **places):
    return (name, places, {"n": n, "m": m})


def one(name, a=1, b=1):
    return statement(name, a=a) if name == "seen" else statement(name, a=a, b=b)


class Faults(Case):
    def faults(self, ones, turns, rows=(), kind=Machine, **plans):
        """The faults after these turns, and that each of them was shown at its turn."""
        found = discipline(BOOK, **plans)
        machine = kind(found, table(found.book, *rows), ones)
        for turn, writer in enumerate(turns):
            before = machine.faults
            machine(writer)
            self.assertEqual(machine.faults[:len(before)], before)
            self.assertTrue(all(fault[1:3] == (turn, writer) for fault in machine.faults[len(before):]))
        self.assertTrue(all(type(fault) is tuple for fault in machine.faults))
        return machine.faults

    def test_point_60_doubled(self):
        ones = [statement("both", a=1, b=5), statement("both", a=1, b=6), statement("back", a=7, b=6)]
        turns = [0, 0, 1, 1, 2, 2, 1, 0, 2]
        self.assertEqual(self.faults(ones, turns, **BARE), [("doubled", 7, 0, 1), ("doubled", 8, 2, 2)])

    def test_point_60_a_row_with_values_of_several_rows_is_doubled_once(self):
        ones = [statement("both", a=1, b=6), statement("both", a=1, b=5), statement("back", a=7, b=6)]
        turns = [0, 0, 1, 1, 2, 2, 1, 2, 0]
        self.assertEqual(self.faults(ones, turns, **BARE), [("doubled", 8, 0, 2)])

    def test_point_60_the_same_value_under_another_key_is_not_doubled(self):
        ones = [statement("both", a=1, b=2), statement("back", a=2, b=1)]
        self.assertEqual(self.faults(ones, [0, 0, 1, 1, 0, 1], **BARE), [])

    def test_point_60_a_row_that_was_there_before(self):
        ones = [statement("both", a=1, b=1), statement("seen", a=1)]
        rows = [({"a": 2, "b": 2}, (0, 0))]
        self.assertEqual(self.faults(ones, [1, 0, 0, 0, 1], rows, **BARE), [("doubled", 4, 1, 2)])

    def test_point_60_a_writer_that_waits_does_not_double(self):
        ones = [statement("both", a=1, b=5), statement("both", a=1, b=6)]
        self.assertEqual(self.faults(ones, [0, 1, 0, 0, 1, 0, 0, 1, 1]), [])

    def test_point_60_lost(self):
        rows = [({"a": 1}, (0, 0))]
        self.assertEqual(self.faults([one("only"), one("only")], [0, 0, 1, 1, 0, 1], rows, **BARE), [("lost", 5, 1, 0)])

    def test_point_60_lost_at_each_write(self):
        rows = [({"b": 9}, (0, 0)), ({"a": 1}, (0, 0))]
        faults = self.faults([one("both"), one("only")], [0, 0, 1, 1, 1, 0, 0], rows, **BARE)
        self.assertEqual(faults, [("lost", 5, 0, 1), ("lost", 6, 0, 1)])

    def test_point_60_lost_only_behind_the_write_of_the_other(self):
        rows = [({"a": 1}, (0, 0))]
        faults = self.faults([one("both"), one("only")], [0, 0, 1, 1, 0, 1, 0], rows, **BARE)
        self.assertEqual(faults, [("lost", 5, 1, 0), ("lost", 6, 0, 0)])

    def test_point_60_lost_even_if_another_field_was_written(self):
        rows = [({"a": 1}, (0, 0))]
        faults = self.faults([one("back"), one("both")], [0, 0, 0, 1, 1, 1, 0, 1], rows, **BARE)
        self.assertEqual([fault[0] for fault in faults], ["lost", "lost"])

    def test_point_60_a_write_before_the_read_is_not_lost(self):
        rows = [({"a": 1}, (0, 0))]
        self.assertEqual(self.faults([one("only"), one("only")], [0, 0, 1, 0, 1, 1], rows, **BARE), [])

    def test_point_60_writes_into_other_rows_are_not_lost(self):
        rows = [({"a": 1}, (0, 0)), ({"a": 2}, (0, 0))]
        ones = [one("only"), one("only", 2, 2)]
        self.assertEqual(self.faults(ones, [0, 0, 1, 1, 0, 1], rows, **BARE), [])

    def test_point_60_the_own_writes_are_not_lost(self):
        self.assertEqual(self.faults([one("both")], [0, 0, 0, 0], [({"a": 1}, (0, 0))], **BARE), [])

    def test_point_60_told_by_tell(self):
        rows = [({"a": 1}, (0, 0))]
        faults = self.faults([one("both"), one("seen")], [1, 0, 0, 0, 1, 0], rows, **BARE)
        self.assertEqual(faults, [("told", 4, 1, 0)])

    def test_point_60_told_by_read_and_by_pass(self):
        rows = [({"a": 1}, (2, 0))]
        faults = self.faults([one("both"), one("only")], [0, 0, 0, 1, 1], rows, **BARE)
        self.assertEqual(faults, [("told", 4, 1, 0)])
        faults = self.faults([one("back"), one("both")], [1, 1, 1, 0, 0, 0, 0], rows, **BARE)
        self.assertEqual(faults, [("told", 5, 0, 0)])

    def test_point_60_told_only_between_the_first_and_the_last_write(self):
        rows = [({"a": 1}, (0, 0))]
        for turns in ([0, 0, 1, 1, 0, 0], [0, 0, 0, 0, 1, 1]):
            self.assertEqual(self.faults([one("both"), one("seen")], turns, rows, **BARE), [])

    def test_point_60_told_of_another_row_is_no_fault(self):
        rows = [({"a": 1}, (0, 0)), ({"a": 2}, (0, 0))]
        self.assertEqual(self.faults([one("both"), one("seen", 2)], [0, 0, 0, 1, 1, 0], rows, **BARE), [])

    def test_point_60_a_change_with_one_assignment_is_never_half_made(self):
        rows = [({"a": 1}, (0, 0))]
        self.assertEqual(self.faults([one("only"), one("seen")], [0, 0, 0, 1, 1], rows, **BARE), [])

    def test_point_60_told_once_although_two_writers_are_midway(self):
        rows = [({"a": 1}, (0, 0))]
        ones = [one("both"), one("both"), one("seen")]
        faults = self.faults(ones, [0, 0, 1, 1, 0, 1, 2, 2], rows, **BARE)
        self.assertEqual(faults, [("lost", 5, 1, 0), ("told", 7, 2, 0)])

    def test_point_60_stuck(self):
        faults = self.faults([one("both"), one("back")], [1, 0, 1, 0])
        self.assertEqual(faults, [("stuck", 3, 0, None)])

    def test_point_60_no_second_stuck_while_it_stays_stuck(self):
        faults = self.faults([one("both"), one("back")], [0, 0, 1, 1, 0, 1, 1, 0])
        self.assertEqual(faults, [("stuck", 3, 1, None)])

    def test_point_60_stuck_only_when_the_last_writer_that_can_go_on_has_ended(self):
        faults = self.faults([one("both"), one("back"), one("seen", 3)], [0, 0, 1, 1, 2, 2, 2])
        self.assertEqual(faults, [("stuck", 6, 2, None)])

    def test_point_60_waiting_turns_count(self):
        faults = self.faults([one("both"), one("back"), one("seen", 3)], [2, 2, 2, 2, 2, 0, 1, 0, 0, 1])
        self.assertEqual(faults, [("stuck", 9, 1, None)])
        faults = self.faults([one("both"), one("back")], [0, 1, 1, 1, 1, 0])
        self.assertEqual(faults, [("stuck", 5, 0, None)])

    def test_point_60_waiting_makes_no_fault(self):
        self.assertEqual(self.faults([one("seen"), one("seen"), one("seen")], [0, 1, 2, 1, 2]), [])

    def test_point_60_stuck_behind_another_fault_of_its_turn(self):
        ones = [one("both"), one("back"), one("seen", 3), one("seen", 3)]
        for kind in (Machine, RetryingMachine):
            faults = self.faults(ones, [2, 3, 2, 0, 0, 1, 1, 3], kind=kind, seen="look a")
            self.assertEqual(faults, [("doubled", 7, 3, 1), ("stuck", 7, 3, None)])

    def test_point_60_lost_and_stuck_in_one_turn(self):
        rows = [({"a": 5}, (0, 0))]
        ones = [one("both"), one("back"), one("only", 5, 5), one("only", 5, 5)]
        faults = self.faults(ones, [2, 2, 3, 3, 3, 0, 0, 1, 1, 2], rows, only="look a, look b")
        self.assertEqual(faults, [("lost", 9, 2, 0), ("stuck", 9, 2, None)])

    def test_point_60_a_machine_without_trouble(self):
        rows = [({"a": 1}, (0, 0))]
        ones = [one("both"), one("only"), one("seen"), one("both", 2, 2)]
        found = discipline(BOOK)
        machine = Machine(found, table(found.book, *rows), ones)
        machine.settle()
        self.assertEqual((machine.ended, machine.faults), (True, []))
