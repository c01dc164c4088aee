"""Reports: points 83 and 84."""

import inspect

from elseput.errors import BadNumber
from elseput.machine import Machine
from elseput.reports import Report
from elseput.retrying import RetryingMachine
from tests.helpers import Case, discipline, table

BOOK = """keys a b
fields n m
both: a change, b change; add n 1, add m 1
few: a change; when n < 1; add n 1
seen: a tell, b refuse
back: b tell, a tell
verylongname: a tell"""
BARE = {"both": "look a, look b", "few": "look a"}


def statement(name, a=None, b=None):
    places = {key: value for key, value in (("a", a), ("b", b)) if value is not None}
    return (name, places, {"n": 0, "m": 0})


class Reports(Case):
    def machine(self, *ones, kind=Machine, rows=(), **plans):
        found = discipline(BOOK, **plans)
        return kind(found, table(found.book, *rows), list(ones))

    def lines(self, machine, **more):
        return list(Report(machine, **more).lines())


class Widths(Reports):
    def test_point_83_the_width_is_12_at_first(self):
        self.assertEqual(Report(self.machine()).width, 12)

    def test_point_83_setting_the_width(self):
        report = Report(self.machine(), width=40)
        self.assertEqual(report.width, 40)
        for width in (4, 40, 5, 39, 12):
            report.width = width
            self.assertEqual(report.width, width)
            report.width = 20
            self.assertIsNone(report.change_width(width))
            self.assertEqual(report.width, width)
        self.assertEqual([Report(self.machine(), width=width).width for width in (4, 5, 39)], [4, 5, 39])

    def test_point_83_widths_that_are_out_of_bounds(self):
        def assign(report, value):
            report.width = value

        report = Report(self.machine(), width=7)
        for bad in (3, 41, 0, -1, -4, 10 ** 40, -10 ** 40):
            with self.subTest(bad=bad):
                self.fails(BadNumber, {"value": bad}, assign, report, bad)
                self.assertEqual(report.width, 7)
                self.fails(BadNumber, {"value": bad}, report.change_width, bad)
                self.assertEqual(report.width, 7)
                self.fails(BadNumber, {"value": bad}, lambda: Report(self.machine(), width=bad))

    def test_points_3_and_83_two_reports_of_one_machine(self):
        machine = self.machine(statement("verylongname", a=123456789))
        machine(0)
        machine.play([0, 0])
        one, two = Report(machine), Report(machine, width=4)
        one.change_width(5)
        self.assertEqual((one.width, two.width), (5, 4))
        self.assertEqual(len(machine.events), 3)


class Lines(Reports):
    def test_point_84_no_events(self):
        self.assertEqual(self.lines(self.machine()), [])
        self.assertEqual(self.lines(self.machine(statement("few", a=1))), [])

    def test_point_84_is_a_generator(self):
        self.assertTrue(inspect.isgeneratorfunction(Report.lines))

    def test_point_84_taking_looking_and_putting(self):
        machine = self.machine(statement("seen", a=1, b=-2), seen="take a, look a, free a, take b, look b")
        machine.play([0] * 7)
        self.assertEqual(self.lines(machine), [
            "   0   0  take    a",
            "   1   0  look    a",
            "   2   0  free    a",
            "   3   0  take    b",
            "   4   0  look    b",
            "   5   0  put     row 0",
            "   6   0  idle    -",
        ])

    def test_point_84_at_a_row(self):
        machine = self.machine(statement("both", a=1, b=1), statement("few", a=2), statement("seen", a=1, b=1),
                               statement("seen", a=9, b=3), rows=[({"a": 1, "b": 3}, (0, 0)), ({"a": 2}, (1, 1))])
        machine.settle()
        self.assertEqual(self.lines(machine), [
            "   0   0  take    a",
            "   1   0  find    row 0",
            "   2   0  lock    row 0",
            "   3   0  read    row 0",
            "   4   0  write   n",
            "   5   0  write   m",
            "   6   1  take    a",
            "   7   1  find    row 1",
            "   8   1  lock    row 1",
            "   9   1  pass    row 1",
            "  10   2  take    a",
            "  11   2  find    row 0",
            "  12   2  lock    row 0",
            "  13   2  tell    row 0",
            "  14   3  take    a",
            "  15   3  look    a",
            "  16   3  take    b",
            "  17   3  refuse  row 0",
        ])

    def test_point_84_waiting_for_places(self):
        ones = [statement("both", a=-5, b=1), statement("both", a=-5, b=1), statement("seen", a=7, b=70),
                statement("seen", a=7, b=71)]
        machine = self.machine(*ones, rows=[({"a": 7}, (0, 0)), ({"a": -6, "b": 1}, (0, 0))], seen="look a, look b; lock a")
        machine.play([0, 1, 2, 0, 0, 0, 0, 1, 1, 1, 1, 1, 1])
        self.assertEqual(self.lines(machine), [
            "   0   0  take    a",
            "   1   1  wait    key a -5",
            "   2   2  find    row 0",
            "   3   0  look    a",
            "   4   0  take    b",
            "   5   0  find    row 1",
            "   6   0  lock    row 1",
            "   7   1  take    a",
            "   8   1  look    a",
            "   9   1  take    b",
            "  10   1  find    row 1",
            "  11   1  wait    row 1",
            "  12   1  wait    row 1",
        ])

    def test_point_84_the_width_cuts_the_thing_and_spaces_at_the_end_are_left_out(self):
        machine = self.machine(statement("verylongname", a=1234567890123), statement("verylongname", a=1234567890123))
        machine.play([0, 1, 0, 0, 0])
        whole = ["   0   0  take    a", "   1   1  wait    key a 1234567890123", "   2   0  look    a",
                 "   3   0  put     row 0", "   4   0  idle    -"]
        for width, waits, puts in ((4, "key", "row"), (5, "key a", "row 0"), (6, "key a", "row 0"), (7, "key a 1", "row 0"),
                                   (12, "key a 123456", "row 0"), (18, "key a 123456789012", "row 0"),
                                   (19, "key a 1234567890123", "row 0"), (40, "key a 1234567890123", "row 0")):
            with self.subTest(width=width):
                lines = list(whole)
                lines[1], lines[3] = f"   1   1  wait    {waits}", f"   3   0  put     {puts}"
                self.assertEqual(self.lines(machine, width=width), lines)

    def test_point_84_names_of_keys_and_fields_are_cut_too(self):
        found = discipline("keys abcdefghijkl\nfields mnopqrstuvwx\ns: abcdefghijkl change; set mnopqrstuvwx 1")
        ones = [("s", {"abcdefghijkl": 1}, {"mnopqrstuvwx": 0})]
        machine = Machine(found, table(found.book, ({"abcdefghijkl": 1}, (0,))), ones)
        machine.settle()
        lines = self.lines(machine)
        self.assertEqual((lines[0], lines[4]), ("   0   0  take    abcdefghijkl", "   4   0  write   mnopqrstuvwx"))
        lines = self.lines(machine, width=4)
        self.assertEqual((lines[0], lines[4]), ("   0   0  take    abcd", "   4   0  write   mnop"))

    def test_point_84_columns_of_the_turns_and_the_writers(self):
        machine = self.machine(*[statement("few", a=value) for value in range(12)], few="look a")
        machine.play([9, 10, 11, *[9] * 9998])
        lines = self.lines(machine)
        self.assertEqual(lines[:4], ["   0   9  look    a", "   1  10  look    a", "   2  11  look    a",
                                     "   3   9  put     row 0"])
        self.assertEqual([lines[at] for at in (9, 10, 99, 100, 999, 1000, 9999, 10000)], [
            "   9   9  idle    -", "  10   9  idle    -", "  99   9  idle    -", " 100   9  idle    -",
            " 999   9  idle    -", "1000   9  idle    -", "9999   9  idle    -", "10000   9  idle    -",
        ])
        self.assertEqual(len(lines), 10001)

    def test_point_84_faults_behind_the_events(self):
        machine = self.machine(statement("few", a=1), statement("few", a=1), few="look a")
        machine.play([0, 1, 0, 1])
        self.assertEqual(self.lines(machine)[3:], ["   3   1  put     row 1", "doubled at 3 by 1 in row 1"])

    def test_point_84_lost_and_told(self):
        ones = [statement("both", a=1, b=1), statement("both", a=1, b=1), statement("verylongname", a=1)]
        machine = self.machine(*ones, rows=[({"a": 1}, (0, 0))], verylongname="look a", **BARE)
        machine.play([0, 0, 1, 1, 2, 0, 2, 1])
        self.assertEqual(self.lines(machine)[7:], [
            "   7   1  write   n", "told at 6 by 2 in row 0", "lost at 7 by 1 in row 0",
        ])

    def test_point_84_stuck_in_a_machine_and_in_a_retrying_one(self):
        for kind in (Machine, RetryingMachine):
            machine = self.machine(statement("both", a=1, b=1), statement("back", a=1, b=1), kind=kind)
            machine.play([0, 0, 1, 1])
            self.assertEqual(self.lines(machine), [
                "   0   0  take    a", "   1   0  look    a", "   2   1  take    b", "   3   1  look    b", "stuck at 3 by 1",
            ])

    def test_points_3_and_84_the_machine_as_it_is_when_asked(self):
        machine = self.machine(statement("few", a=1), statement("few", a=1), few="look a")
        report = Report(machine)
        self.assertEqual(list(report.lines()), [])
        machine(0)
        self.assertEqual(list(report.lines()), ["   0   0  look    a"])
        self.assertEqual(list(report.lines()), ["   0   0  look    a"])
        machine.play([1, 1, 0])
        lines = list(report.lines())
        self.assertEqual(lines[2:], ["   2   1  put     row 0", "   3   0  put     row 1", "doubled at 3 by 0 in row 1"])
        machine.undo(3)
        self.assertEqual(list(report.lines()), ["   0   0  look    a"])
        self.assertEqual(lines[0], "   0   0  look    a")
        self.assertEqual((len(machine.events), machine.faults), (1, []))

    def test_point_84_lines_are_strings_without_spaces_at_the_end(self):
        machine = self.machine(statement("both", a=1, b=1), statement("seen", a=1, b=1), statement("back", a=1, b=1))
        machine.settle()
        for width in (4, 12, 40):
            for line in self.lines(machine, width=width):
                self.assertIs(type(line), str)
                self.assertEqual(line, line.rstrip())
