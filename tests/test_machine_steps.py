"""The steps of a machine: points 54 to 56."""

from elseput.disciplines import Discipline
from elseput.errors import BadRow, BadTurn, UnknownShape
from elseput.machine import Machine
from elseput.plans import Plan
from elseput.retrying import RetryingMachine
from tests.helpers import Case, discipline, state, table

BOOK = """keys a b c
fields n m
visit: b change, a change; when n < 5; add n 1, set m 7
seen: a tell, c tell
new: c refuse, a refuse
mixed: a tell, b refuse, c change; set m 7"""


def statement(name, n=0, m=0, **places):
    return (name, places, {"n": n, "m": m})


def key(name, value):
    return ("key", name, value)


class Steps(Case):
    def setUp(self):
        self.discipline = discipline(BOOK)

    def machine(self, *statements, rows=(), **plans):
        for name, line in plans.items():
            self.discipline[name] = Plan.read(line)
        return Machine(self.discipline, table(self.discipline.book, *rows), list(statements))

    def turns(self, machine, writer, *expected):
        """These events of a writer come next."""
        for deed, thing in expected:
            self.assertEqual(machine(writer), (writer, deed, thing))

    def contents(self, machine):
        return [tuple(content.values()) for _, content in machine.rows()]


class Starting(Steps):
    def test_point_54_no_statements(self):
        machine = self.machine(rows=[({"a": 1}, (2, 3))])
        self.assertEqual(machine.outcomes, [])
        self.assertEqual(machine.rows(), [({"a": 1}, {"n": 2, "m": 3})])
        self.fails(BadTurn, {"writer": 0}, machine, 0)

    def test_point_54_the_first_bad_statement(self):
        good, nix = statement("seen", a=1, c=1), statement("nix", z=1)
        short, empty = statement("seen", a=1), ("visit", {"a": 1, "b": 1}, {})
        for kind in (Machine, RetryingMachine):
            for statements, error, fields in (
                ([nix], UnknownShape, {"name": "nix"}), ([good, nix, short], UnknownShape, {"name": "nix"}),
                ([good, short, nix], BadRow, {}), ([empty, nix], BadRow, {}), ([good, good, empty], BadRow, {}),
                ([nix, statement("nox")], UnknownShape, {"name": "nix"}),
                ([("nix", {}, {})], UnknownShape, {"name": "nix"}),
            ):
                with self.subTest(statements=statements):
                    book = self.discipline.book
                    self.fails(error, fields, kind, self.discipline, table(book), statements)

    def test_point_54_twelve_statements(self):
        statements = [statement("seen", a=at, c=at) for at in range(12)]
        machine = self.machine(*statements)
        self.assertEqual(len(machine.outcomes), 12)
        self.turns(machine, 11, ("take", "a"))

    def test_points_3_and_54_a_discipline_that_is_changed_later(self):
        machine = self.machine(statement("seen", a=1, c=1))
        self.discipline["seen"] = Plan.read("look a, look c")
        self.turns(machine, 0, ("take", "a"), ("look", "a"), ("take", "c"))
        self.assertEqual(machine.resumed().play([0]), [(0, "take", "a")])

    def test_points_3_and_54_a_table_that_is_changed_later(self):
        book = self.discipline.book
        rows = table(book, ({"a": 1}, (0, 0)))
        machine = Machine(self.discipline, rows, [statement("seen", a=1, c=1)])
        rows.write(0, "n", 77)
        rows.enter({"c": 1}, {"n": 0, "m": 0})
        self.assertEqual(machine.rows(), [({"a": 1}, {"n": 0, "m": 0})])
        self.assertEqual(machine.recovered().rows(), [({"a": 1}, {"n": 0, "m": 0})])
        self.turns(machine, 0, ("take", "a"), ("find", 0), ("lock", 0), ("tell", 0))
        machine.undo(4)
        self.assertEqual(machine.rows(), [({"a": 1}, {"n": 0, "m": 0})])

    def test_points_3_and_54_the_given_table_is_not_changed(self):
        rows = table(self.discipline.book, ({"a": 1}, (0, 0)))
        machine = Machine(self.discipline, rows, [statement("visit", a=1, b=1), statement("visit", a=2, b=2)])
        machine.settle()
        self.assertEqual(len(machine.rows()), 2)
        self.assertEqual(rows.rows(), [({"a": 1}, {"n": 0, "m": 0})])

    def test_points_3_and_54_statements_that_are_changed_later(self):
        one = statement("seen", 1, 2, a=1, c=1)
        statements = [one]
        machine = Machine(self.discipline, table(self.discipline.book), statements)
        one[1]["a"] = 5
        one[2]["n"] = 5
        statements.append(statement("nix"))
        self.assertEqual(machine.outcomes, [None])
        machine.settle()
        self.assertEqual(machine.rows(), [({"a": 1, "c": 1}, {"n": 1, "m": 2})])
        self.assertEqual(one, statement("seen", 5, 2, a=5, c=1))
        machine.undo(3)
        self.assertEqual(machine.resumed().settle(), 5)


class Plans(Steps):
    def test_point_55_take_look_and_put(self):
        machine = self.machine(statement("seen", 3, 4, a=1, c=2), rows=[({"a": 2, "c": 1}, (0, 0))])
        self.turns(machine, 0, ("take", "a"))
        self.assertEqual(machine.held(0), [key("a", 1)])
        self.turns(machine, 0, ("look", "a"), ("take", "c"))
        self.assertEqual(machine.held(0), [key("a", 1), key("c", 2)])
        self.turns(machine, 0, ("look", "c"))
        self.assertEqual(len(machine.rows()), 1)
        self.turns(machine, 0, ("put", 1))
        self.assertEqual(machine.rows()[1], ({"a": 1, "c": 2}, {"n": 3, "m": 4}))
        self.assertEqual(machine.held(0), [])
        self.turns(machine, 0, ("idle", None), ("idle", None))

    def test_point_55_free(self):
        machine = self.machine(statement("seen", a=1, c=2), seen="take c, take a, free c, look a, look c, free a")
        self.turns(machine, 0, ("take", "c"), ("take", "a"), ("free", "c"))
        self.assertEqual(machine.held(0), [key("a", 1)])
        self.turns(machine, 0, ("look", "a"), ("look", "c"), ("free", "a"))
        self.assertEqual(machine.held(0), [])
        self.turns(machine, 0, ("put", 0))

    def test_point_55_steps_behind_the_last_look(self):
        machine = self.machine(statement("seen", a=1, c=2), seen="look a, look c, take a, take c, free a")
        self.turns(machine, 0, ("look", "a"), ("look", "c"), ("take", "a"), ("take", "c"), ("free", "a"))
        self.assertEqual(machine.held(0), [key("c", 2)])
        self.turns(machine, 0, ("put", 0))
        self.assertEqual(machine.held(0), [])

    def test_point_55_a_key_that_is_looked_at_without_its_place(self):
        machine = self.machine(statement("seen", a=1, c=2), statement("seen", a=1, c=3), rows=[({"a": 1}, (5, 6))],
                               seen="look a, take c, look c")
        self.turns(machine, 0, ("find", 0), ("tell", 0))
        self.turns(machine, 1, ("find", 0), ("tell", 0))

    def test_point_55_a_value_is_free_for_others_only_when_it_is_not_held(self):
        machine = self.machine(statement("seen", a=1, c=2), statement("seen", a=1, c=3), statement("seen", a=2, c=2))
        self.turns(machine, 0, ("take", "a"))
        self.turns(machine, 1, ("wait", key("a", 1)))
        self.turns(machine, 2, ("take", "a"), ("look", "a"), ("take", "c"))
        self.turns(machine, 0, ("look", "a"), ("wait", key("c", 2)))

    def test_point_55_the_same_value_under_another_key_is_another_place(self):
        machine = self.machine(statement("visit", a=1, b=2), statement("seen", a=2, c=1))
        self.turns(machine, 0, ("take", "b"))
        self.turns(machine, 1, ("take", "a"))
        self.assertEqual((machine.held(0), machine.held(1)), ([key("b", 2)], [key("a", 2)]))

    def test_point_55_a_row_under_a_later_key(self):
        machine = self.machine(statement("visit", a=1, b=2), rows=[({"a": 2}, (0, 0)), ({"a": 1, "b": 1}, (0, 0))])
        self.turns(machine, 0, ("take", "b"), ("look", "b"), ("take", "a"), ("find", 1), ("lock", 1), ("read", 1))

    def test_point_55_the_first_key_counts_although_a_later_one_has_another_row(self):
        machine = self.machine(statement("visit", a=1, b=2), rows=[({"a": 1}, (0, 0)), ({"b": 2}, (0, 0))])
        self.turns(machine, 0, ("take", "b"), ("find", 1), ("lock", 1))

    def test_point_55_the_least_row_of_several_with_one_value(self):
        rows = [({"b": 1}, (0, 0)), ({"a": 1}, (8, 8)), ({"a": 1, "b": 2}, (9, 9))]
        machine = self.machine(statement("seen", a=1, c=1), statement("visit", a=1, b=2), rows=rows)
        self.turns(machine, 0, ("take", "a"), ("find", 1), ("lock", 1), ("tell", 1))
        self.turns(machine, 1, ("take", "b"), ("find", 2))
        self.assertEqual(machine.outcomes[0], ("told", 1, (8, 8)))

    def test_point_55_a_row_that_another_writer_has_put(self):
        machine = self.machine(statement("seen", 4, 5, a=1, c=1), statement("seen", 6, 7, a=2, c=1))
        self.turns(machine, 1, ("take", "a"), ("look", "a"))
        machine.play([0] * 5)
        self.turns(machine, 1, ("take", "c"), ("find", 0), ("lock", 0), ("tell", 0))
        self.assertEqual(machine.outcomes[1], ("told", 0, (4, 5)))

    def test_point_55_find_leaves_the_plan(self):
        machine = self.machine(statement("visit", a=1, b=2), rows=[({"b": 2}, (0, 0))],
                               visit="take a, take b, look b, free a, look a, free b; lock b")
        self.turns(machine, 0, ("take", "a"), ("take", "b"))
        self.assertEqual(machine.held(0), [key("a", 1), key("b", 2)])
        self.turns(machine, 0, ("find", 0))
        self.assertEqual(machine.held(0), [])
        self.turns(machine, 0, ("lock", 0), ("read", 0), ("write", "n"), ("write", "m"), ("idle", None))

    def test_point_55_find_keeps_the_place_of_a_kept_key(self):
        machine = self.machine(statement("visit", a=1, b=2), rows=[({"b": 2}, (0, 0))],
                               visit="take a, take b, look b, look a; keep a b")
        self.turns(machine, 0, ("take", "a"), ("take", "b"), ("find", 0))
        self.assertEqual(machine.held(0), [key("b", 2)])
        self.turns(machine, 0, ("read", 0), ("write", "n"))
        self.assertEqual(machine.held(0), [key("b", 2)])
        self.turns(machine, 0, ("write", "m"))
        self.assertEqual(machine.held(0), [])

    def test_point_55_find_keeps_only_the_key_of_the_row(self):
        machine = self.machine(statement("visit", a=1, b=2), rows=[({"a": 1}, (0, 0))],
                               visit="take a, take b, look b, look a; keep b")
        self.turns(machine, 0, ("take", "a"), ("take", "b"), ("look", "b"), ("find", 0))
        self.assertEqual(machine.held(0), [])

    def test_point_55_a_kept_key_that_is_not_held(self):
        rows = [({"b": 2}, (0, 0))]
        for plan, before in (("look b, take b, look a; keep b", 0), ("take b, free b, look b, look a; keep b", 2)):
            machine = self.machine(statement("visit", a=1, b=2), rows=rows, visit=plan)
            machine.play([0] * before)
            self.turns(machine, 0, ("find", 0))
            self.assertEqual(machine.held(0), [])
            self.turns(machine, 0, ("read", 0))

    def test_point_55_the_kept_place_stands_beside_the_row(self):
        machine = self.machine(statement("visit", a=1, b=2), rows=[({"b": 2}, (0, 0))],
                               visit="take a, take b, look b, look a; lock b; keep b")
        self.turns(machine, 0, ("take", "a"), ("take", "b"), ("find", 0), ("lock", 0))
        self.assertEqual(machine.held(0), [key("b", 2), ("row", 0)])


class Rows(Steps):
    def test_point_55_a_refuse_arm(self):
        machine = self.machine(statement("new", a=1, c=1), rows=[({"b": 1}, (0, 0)), ({"a": 1}, (0, 0))],
                               new="take a, take c, look c, look a")
        self.turns(machine, 0, ("take", "a"), ("take", "c"), ("look", "c"))
        self.assertEqual(len(machine.held(0)), 2)
        self.turns(machine, 0, ("refuse", 1))
        self.assertEqual((machine.held(0), machine.outcomes), ([], [("refused", 1, None)]))
        self.turns(machine, 0, ("idle", None))

    def test_point_55_a_tell_arm_with_and_without_a_locked_key(self):
        rows = [({"a": 1}, (3, 4))]
        for plan, events in (("take a, look a, take c, look c; lock a", [("lock", 0), ("tell", 0)]),
                             ("take a, look a, take c, look c; lock c", [("tell", 0)]),
                             ("take a, look a, take c, look c", [("tell", 0)])):
            machine = self.machine(statement("seen", a=1, c=1), rows=rows, seen=plan)
            self.turns(machine, 0, ("take", "a"), ("find", 0), *events, ("idle", None))
            self.assertEqual((machine.outcomes, machine.held(0)), ([("told", 0, (3, 4))], []))
            self.assertEqual(self.contents(machine), [(3, 4)])

    def test_point_55_a_change_arm_with_and_without_a_locked_key(self):
        rows = [({"b": 1}, (3, 4))]
        for plan, events in (("take b, look b, take a, look a; lock b", [("lock", 0)]),
                             ("take b, look b, take a, look a; lock a", []),
                             ("take b, look b, take a, look a", [])):
            machine = self.machine(statement("visit", a=1, b=1), rows=rows, visit=plan)
            self.turns(machine, 0, ("take", "b"), ("find", 0), *events, ("read", 0))
            self.assertEqual(self.contents(machine), [(3, 4)])
            self.turns(machine, 0, ("write", "n"))
            self.assertEqual((self.contents(machine), machine.outcomes), ([(4, 4)], [None]))
            self.turns(machine, 0, ("write", "m"))
            self.assertEqual((self.contents(machine), machine.outcomes), ([(4, 7)], [("changed", 0, (4, 7))]))
            self.turns(machine, 0, ("idle", None))

    def test_point_55_the_modes_of_row_places(self):
        rows = [({"a": 1, "b": 1}, (3, 4))]
        machine = self.machine(statement("seen", a=1, c=1), statement("seen", a=1, c=2), statement("visit", a=2, b=1),
                               statement("visit", a=1, b=3), rows=rows, seen="look a, look c; lock a",
                               visit="look b, look a; lock a b")
        machine.play([0, 1, 2, 3, 3])
        self.turns(machine, 0, ("lock", 0))
        self.turns(machine, 1, ("lock", 0))
        self.turns(machine, 2, ("wait", ("row", 0)))
        self.assertEqual((machine.held(0), machine.held(1), machine.held(2)), ([("row", 0)], [("row", 0)], []))
        self.turns(machine, 0, ("tell", 0))
        self.turns(machine, 2, ("wait", ("row", 0)))
        self.turns(machine, 1, ("tell", 0))
        self.turns(machine, 2, ("lock", 0))
        self.turns(machine, 3, ("wait", ("row", 0)))
        self.turns(machine, 2, ("read", 0), ("write", "n"), ("write", "m"))
        self.turns(machine, 3, ("lock", 0), ("read", 0))

    def test_point_55_a_teller_waits_for_a_changer(self):
        rows = [({"a": 1, "b": 1}, (3, 4))]
        machine = self.machine(statement("visit", a=9, b=1), statement("seen", a=1, c=1), rows=rows)
        machine.play([0, 0, 0])
        self.turns(machine, 1, ("take", "a"), ("find", 0), ("wait", ("row", 0)))
        machine.play([0, 0, 0])
        self.turns(machine, 1, ("lock", 0), ("tell", 0))
        self.assertEqual(machine.outcomes[1], ("told", 0, (4, 7)))

    def test_point_55_a_condition_that_does_not_hold(self):
        machine = self.machine(statement("visit", 0, 0, a=1, b=1), rows=[({"b": 1}, (5, 4))])
        self.turns(machine, 0, ("take", "b"), ("find", 0), ("lock", 0))
        self.assertEqual(machine.held(0), [("row", 0)])
        self.turns(machine, 0, ("pass", 0))
        self.assertEqual((machine.outcomes, machine.held(0)), ([("passed", 0, None)], []))
        self.turns(machine, 0, ("idle", None))
        self.assertEqual(self.contents(machine), [(5, 4)])

    def test_point_55_the_actions_of_one_shape(self):
        rows = [({"a": 1}, (1, 1)), ({"b": 1}, (2, 2)), ({"c": 1}, (3, 3))]
        ones = [statement("mixed", a=1, b=1, c=1), statement("mixed", a=2, b=1, c=1), statement("mixed", a=3, b=2, c=1)]
        machine = self.machine(*ones, rows=rows)
        self.turns(machine, 0, ("take", "a"), ("find", 0), ("lock", 0), ("tell", 0))
        self.turns(machine, 1, ("take", "a"), ("look", "a"), ("take", "b"), ("refuse", 1))
        self.turns(machine, 2, ("take", "a"), ("look", "a"), ("take", "b"), ("look", "b"), ("take", "c"), ("find", 2))
        self.turns(machine, 2, ("lock", 2), ("read", 2), ("write", "m"), ("idle", None))
        self.assertEqual(machine.outcomes, [("told", 0, (1, 1)), ("refused", 1, None), ("changed", 2, (3, 7))])

    def test_point_55_writes_are_worked_out_from_what_was_read(self):
        text = "keys a\nfields n m\nup: a change; add n 1, add m 2\nfix: a change; set m 50"
        found = discipline(text, up="look a", fix="look a")
        machine = Machine(found, table(found.book, ({"a": 1}, (10, 20))),
                          [("up", {"a": 1}, {"n": 0, "m": 0}), ("fix", {"a": 1}, {"n": 0, "m": 0})])
        self.turns(machine, 0, ("find", 0), ("read", 0), ("write", "n"))
        self.turns(machine, 1, ("find", 0), ("read", 0), ("write", "m"))
        self.assertEqual(self.contents(machine), [(11, 50)])
        self.turns(machine, 0, ("write", "m"))
        self.assertEqual(self.contents(machine), [(11, 22)])
        self.assertEqual(machine.outcomes, [("changed", 0, (11, 22)), ("changed", 0, (11, 50))])

    def test_point_55_only_assigned_fields_are_written(self):
        text = "keys a\nfields n m\nup: a change; add n 1\nfix: a change; set m 5"
        found = discipline(text, up="look a", fix="look a")
        machine = Machine(found, table(found.book, ({"a": 1}, (10, 20))),
                          [("up", {"a": 1}, {"n": 0, "m": 0}), ("fix", {"a": 1}, {"n": 0, "m": 0})])
        machine.play([0, 0, 1, 1, 1, 0])
        self.assertEqual(self.contents(machine), [(11, 5)])
        self.assertEqual(machine.outcomes, [("changed", 0, (11, 20)), ("changed", 0, (10, 5))])

    def test_point_55_writes_in_the_order_of_the_assignments(self):
        found = discipline("keys a\nfields n m k\nup: a change; set k 1, add n 1, set m 1")
        machine = Machine(found, table(found.book, ({"a": 1}, (5, 5, 5))), [("up", {"a": 1}, {"n": 0, "m": 0, "k": 0})])
        self.turns(machine, 0, ("take", "a"), ("find", 0), ("lock", 0), ("read", 0))
        self.turns(machine, 0, ("write", "k"), ("write", "n"), ("write", "m"), ("idle", None))
        self.assertEqual(machine.outcomes, [("changed", 0, (6, 1, 1))])

    def test_point_55_the_condition_is_asked_of_what_was_read_once(self):
        machine = self.machine(statement("visit", a=1, b=1), statement("visit", a=2, b=1), rows=[({"b": 1}, (4, 0))],
                               visit="look b, look a")
        machine.play([0, 0, 1, 1, 1, 1])
        self.assertEqual(self.contents(machine), [(5, 7)])
        self.turns(machine, 0, ("write", "n"), ("write", "m"))
        self.assertEqual(machine.outcomes, [("changed", 0, (5, 7)), ("changed", 0, (5, 7))])


class Waiting(Steps):
    def test_point_56_waiting_for_a_key(self):
        machine = self.machine(statement("seen", a=1, c=1), statement("seen", a=1, c=2), rows=[({"a": 5}, (0, 0))])
        self.turns(machine, 0, ("take", "a"))
        before = state(machine)
        self.turns(machine, 1, ("wait", key("a", 1)), ("wait", key("a", 1)))
        for name in ("outcomes", "faults", "waiting", "unfinished", "rows", "held", "stuck"):
            self.assertEqual(state(machine)[name], before[name])
        self.turns(machine, 0, ("look", "a"), ("take", "c"), ("look", "c"), ("put", 1))
        self.turns(machine, 1, ("take", "a"), ("find", 1))

    def test_point_56_waiting_for_a_row(self):
        machine = self.machine(statement("visit", a=1, b=1), statement("visit", a=2, b=1), rows=[({"b": 1}, (0, 0))])
        self.turns(machine, 0, ("take", "b"), ("find", 0))
        self.turns(machine, 1, ("take", "b"), ("find", 0))
        self.turns(machine, 0, ("lock", 0))
        self.turns(machine, 1, ("wait", ("row", 0)), ("wait", ("row", 0)))
        self.turns(machine, 0, ("read", 0), ("write", "n"))
        self.turns(machine, 1, ("wait", ("row", 0)))
        self.turns(machine, 0, ("write", "m"), ("idle", None))
        self.turns(machine, 1, ("lock", 0), ("read", 0), ("write", "n"))
        self.assertEqual(self.contents(machine), [(2, 7)])

    def test_point_56_a_writer_that_waits_keeps_its_places(self):
        machine = self.machine(statement("seen", a=1, c=1), statement("seen", a=2, c=1))
        machine.play([0, 0, 0, 1, 1])
        self.turns(machine, 1, ("wait", key("c", 1)))
        self.assertEqual(machine.held(1), [key("a", 2)])

    def test_point_56_an_ended_writer_stays_as_it_is(self):
        machine = self.machine(statement("new", a=1, c=1), rows=[({"c": 1}, (0, 0))])
        machine.play([0, 0])
        before = state(machine)
        self.turns(machine, 0, ("idle", None))
        after = state(machine)
        self.assertEqual(after.pop("events"), [*before.pop("events"), (0, "idle", None)])
        self.assertEqual(after, before)

    def test_point_55_bad_turns(self):
        machine = self.machine(statement("seen", a=1, c=1), statement("seen", a=2, c=2))
        machine.play([1, 0])
        before = state(machine)
        for writer in (-1, 2, -2, 12, -3):
            self.fails(BadTurn, {"writer": writer}, machine, writer)
            self.assertEqual(state(machine), before)

    def test_point_55_events_are_tuples(self):
        machine = self.machine(statement("seen", a=1, c=1), statement("seen", a=1, c=1))
        for event in machine.play([0, 1, 0]):
            self.assertIs(type(event), tuple)
            self.assertEqual(len(event), 3)
        self.assertIs(type(machine.events[1][2]), tuple)


class Shared(Steps):
    def test_shapes_of_one_book_have_their_own_plans(self):
        book = self.discipline.book
        other = Discipline(book)
        other["seen"] = Plan.read("look a, look c")
        one = [statement("seen", a=1, c=1)]
        self.assertEqual(Machine(other, table(book), one)(0), (0, "look", "a"))
        self.assertEqual(Machine(self.discipline, table(book), one)(0), (0, "take", "a"))

    def test_point_54_a_discipline_of_another_book(self):
        found = discipline("keys a\nfields n\nonly: a tell")
        self.fails(UnknownShape, {"name": "seen"}, Machine, found, table(found.book), [statement("seen", a=1, c=1)])
