"""What a machine returns: points 57 to 59 and 64."""

from elseput.alone import answer
from elseput.errors import BadTurn
from elseput.machine import Machine
from elseput.weavings import Weaving
from tests.helpers import Case, discipline, state, table

BOOK = """keys a b
fields n m
visit: a change, b change; when n < 5; add n 1, set m 7
other: b change, a change; set n 0
seen: a tell
new: b refuse, a refuse"""


def statement(name, n=0, m=0, **places):
    return (name, places, {"n": n, "m": m})


class Machines(Case):
    def machine(self, *statements, rows=(), **plans):
        found = discipline(BOOK, **plans)
        return Machine(found, table(found.book, *rows), list(statements))


class Outcomes(Machines):
    def test_point_57_each_word(self):
        rows = [({"a": 1}, (5, 6)), ({"a": 2}, (4, 3))]
        machine = self.machine(
            statement("visit", 9, 8, a=7, b=7), statement("visit", 9, 8, a=2, b=2), statement("visit", a=1, b=1),
            statement("seen", 1, 1, a=1), statement("new", 3, 4, a=1, b=9), statement("seen", 7, 7, a=3), rows=rows,
        )
        machine.settle()
        expected = [("put", 2, (9, 8)), ("changed", 1, (5, 7)), ("passed", 0, None), ("told", 0, (5, 6)),
                    ("refused", 0, None), ("put", 3, (7, 7))]
        self.assertEqual(machine.outcomes, expected)
        self.assertTrue(all(type(outcome) is tuple for outcome in machine.outcomes))
        self.assertTrue(all(outcome[2] is None or type(outcome[2]) is tuple for outcome in machine.outcomes))

    def test_point_57_told_is_what_was_read_or_worked_out_and_not_what_is_in_the_row_later(self):
        ones = [statement("seen", a=1), statement("visit", a=1, b=1), statement("other", a=1, b=1)]
        machine = self.machine(*ones, rows=[({"a": 1}, (1, 1))], seen="look a", visit="look a, look b",
                               other="look b, look a")
        machine.play([0, 0, 1, 1, 2, 2, 2, 2, 1, 1])
        self.assertEqual(machine.outcomes, [("told", 0, (1, 1)), ("changed", 0, (2, 7)), ("changed", 0, (0, 1))])
        self.assertEqual(machine.rows(), [({"a": 1}, {"n": 2, "m": 7})])

    def test_point_57_one_writer_alone_has_the_outcome_of_the_statement_alone(self):
        rows = [({"a": 1}, (5, 6)), ({"b": 2}, (4, 3))]
        book = discipline(BOOK).book
        for one in (statement("visit", a=1, b=2), statement("visit", a=5, b=2), statement("other", a=1, b=2),
                    statement("seen", a=1), statement("seen", 1, 2, a=2), statement("new", a=1, b=2),
                    statement("new", a=1, b=3), statement("new", 1, 1, a=3, b=3)):
            machine = self.machine(one, rows=rows)
            machine.settle()
            alone = table(book, *rows)
            self.assertEqual(machine.outcomes, [answer(book, alone, one)])
            self.assertEqual(machine.rows(), alone.rows())


class Properties(Machines):
    def crossing(self, *more):
        """Two writers that can get stuck, and more of them."""
        return self.machine(statement("visit", a=1, b=1), statement("other", a=1, b=1), *more)

    def test_point_58_no_writers(self):
        machine = self.machine()
        self.assertEqual(state(machine), {
            "outcomes": [], "events": [], "faults": [], "waiting": [], "order": [], "unfinished": [], "ring": [],
            "ended": True, "stuck": False, "rows": [], "recovered": [], "held": [], "restarts": None,
        })

    def test_point_58_at_the_start(self):
        machine = self.crossing()
        self.assertEqual(state(machine), {
            "outcomes": [None, None], "events": [], "faults": [], "waiting": [], "order": [], "unfinished": [0, 1],
            "ring": [], "ended": False, "stuck": False, "rows": [], "recovered": [], "held": [[], []], "restarts": None,
        })

    def test_point_58_on_the_way(self):
        machine = self.crossing(statement("seen", 4, 4, a=2))
        events = machine.play([0, 1, 2, 2, 2, 1, 1])
        self.assertEqual(state(machine), {
            "outcomes": [None, None, ("put", 0, (4, 4))], "events": events, "faults": [], "waiting": [1], "order": [2],
            "unfinished": [0, 1], "ring": [], "ended": False, "stuck": False,
            "rows": [({"a": 2}, {"n": 4, "m": 4})], "recovered": [({"a": 2}, {"n": 4, "m": 4})],
            "held": [[("key", "a", 1)], [("key", "b", 1)], []], "restarts": None,
        })
        self.assertEqual(events, [
            (0, "take", "a"), (1, "take", "b"), (2, "take", "a"), (2, "look", "a"), (2, "put", 0), (1, "look", "b"),
            (1, "wait", ("key", "a", 1)),
        ])

    def test_point_58_waiting_is_about_the_next_step_and_not_about_turns(self):
        machine = self.crossing()
        machine.play([0, 1, 1])
        self.assertEqual(machine.waiting, [1])
        machine(0)
        self.assertEqual(machine.waiting, [0, 1])
        self.assertIs(machine.stuck, True)
        self.assertEqual([deed for _, deed, _ in machine.events], ["take", "take", "look", "look"])

    def test_point_58_waiting_for_a_row(self):
        machine = self.machine(statement("visit", a=1, b=1), statement("seen", a=1), rows=[({"a": 1}, (0, 0))])
        machine.play([0, 0, 1, 1, 1])
        self.assertEqual((machine.waiting, machine.stuck), ([0], False))
        machine(1)
        self.assertEqual((machine.waiting, machine.unfinished), ([], [0]))

    def test_point_58_stuck(self):
        machine = self.crossing()
        machine.play([0, 0, 1, 1])
        self.assertIs(machine.stuck, True)
        self.assertIs(machine.ended, False)
        self.assertEqual((machine.waiting, machine.unfinished, machine.outcomes), ([0, 1], [0, 1], [None, None]))
        self.assertEqual((machine.order, machine.ring), ([], [0, 1]))

    def test_point_58_stuck_beside_an_ended_writer(self):
        machine = self.crossing(statement("seen", a=2))
        machine.play([0, 0, 1, 1])
        self.assertEqual((machine.stuck, machine.waiting), (False, [0, 1]))
        machine.play([2, 2, 2])
        self.assertEqual((machine.stuck, machine.waiting, machine.ended), (True, [0, 1], False))

    def test_point_58_a_third_writer_that_waits_only_later(self):
        machine = self.crossing(statement("seen", a=1))
        machine.play([0, 0, 1, 1])
        self.assertEqual((machine.stuck, machine.waiting), (True, [0, 1, 2]))

    def test_point_58_all_have_ended(self):
        machine = self.crossing()
        machine.play([0] * 5 + [1] * 5)
        self.assertEqual((machine.ended, machine.stuck, machine.waiting, machine.unfinished), (True, False, [], []))
        self.assertEqual(machine.outcomes, [("put", 0, (0, 0)), ("changed", 0, (0, 0))])
        self.assertEqual((machine.held(0), machine.held(1)), ([], []))

    def test_point_58_the_places_in_the_order_of_the_takes(self):
        machine = self.machine(statement("other", a=1, b=2), other="take b, take a, look b, look a; keep a")
        machine.play([0, 0])
        self.assertEqual(machine.held(0), [("key", "b", 2), ("key", "a", 1)])

    def test_points_3_and_58_what_is_returned_is_new(self):
        machine = self.crossing(statement("seen", a=2))
        machine.play([0, 2, 2, 2, 0, 1, 1])
        before = state(machine)
        for found in (machine.outcomes, machine.events, machine.faults, machine.waiting, machine.order,
                      machine.unfinished, machine.ring, machine.rows(), machine.held(0)):
            self.assertIs(type(found), list)
            found.append(77)
        machine.rows()[0][0]["a"] = 9
        machine.rows()[0][1]["n"] = 9
        machine.recovered().write(0, "n", 9)
        machine.play([]).append(7)
        self.assertEqual(state(machine), before)
        self.assertEqual(machine.faults, [("stuck", 6, 1, None)])

    def test_point_58_asking_changes_nothing(self):
        machine = self.crossing()
        machine.play([0, 0, 1])
        self.assertEqual(state(machine), state(machine))


class Playing(Machines):
    def test_point_59_playing_a_list_or_a_weaving(self):
        for turns in ([0, 1, 0, 0], Weaving([0, 1, 0, 0])):
            machine = self.machine(statement("seen", a=1), statement("seen", a=1))
            events = machine.play(turns)
            self.assertEqual(events, [(0, "take", "a"), (1, "wait", ("key", "a", 1)), (0, "look", "a"), (0, "put", 0)])
            self.assertEqual(machine.events, events)
            self.assertEqual(machine.play([1]), [(1, "take", "a")])
            self.assertEqual(len(machine.events), 5)

    def test_point_59_playing_nothing(self):
        machine = self.machine(statement("seen", a=1))
        self.assertEqual((machine.play([]), machine.play(Weaving([])), machine.events), ([], [], []))

    def test_point_59_a_bad_turn_in_the_middle(self):
        for turns, bad in (([0, 1, 2, 0], 2), ([0, 1, -1, 5], -1), (Weaving([0, 1, 7, 0]), 7), ([0, 1, 12], 12)):
            machine = self.machine(statement("seen", a=1), statement("seen", a=2))
            self.fails(BadTurn, {"writer": bad}, machine.play, turns)
            self.assertEqual(machine.events, [(0, "take", "a"), (1, "take", "a")])
            self.assertEqual(machine.held(1), [("key", "a", 2)])

    def test_points_3_and_59_the_turns_stay_as_they_were(self):
        turns, weaving = [0, 0], Weaving([0])
        machine = self.machine(statement("seen", a=1))
        machine.play(turns)
        machine.play(weaving)
        self.assertEqual((turns, weaving.turns), ([0, 0], (0,)))

    def test_point_59_a_settle_that_makes_no_turn(self):
        self.assertEqual(self.machine().settle(), 0)
        machine = self.machine(statement("visit", a=1, b=1), statement("other", a=1, b=1))
        machine.play([0, 0, 1, 1])
        self.assertEqual(machine.settle(), 0)
        self.assertEqual(len(machine.events), 4)
        ended = self.machine(statement("seen", a=1))
        self.assertEqual((ended.settle(), ended.settle(), len(ended.events)), (3, 0, 3))

    def test_point_59_a_settle_that_ends_all(self):
        machine = self.machine(statement("visit", a=1, b=1), statement("seen", a=1), statement("other", a=2, b=2))
        machine.play([1, 1])
        self.assertEqual(machine.settle(), 1 + 6 + 5)
        self.assertIs(machine.ended, True)
        self.assertEqual([writer for writer, _, _ in machine.events], [1, 1, 1, 0, 0, 0, 0, 0, 0, 2, 2, 2, 2, 2])
        self.assertNotIn("wait", [deed for _, deed, _ in machine.events])

    def test_point_59_the_least_writer_that_can_go_on(self):
        machine = self.machine(statement("seen", a=1), statement("seen", a=2), statement("seen", a=1))
        machine.play([2])
        self.assertEqual(machine.settle(), 3 + 2 + 4)
        self.assertEqual([writer for writer, _, _ in machine.events], [2, 1, 1, 1, 2, 2, 0, 0, 0, 0])

    def test_point_59_a_writer_that_can_go_on_again_comes_first(self):
        plan = "take a, look a, free a, look b"
        machine = self.machine(statement("seen", a=1), statement("visit", a=1, b=1), visit=plan)
        machine.play([1])
        machine.settle()
        self.assertEqual([writer for writer, _, _ in machine.events], [1, 1, 1, 0, 0, 0, 1, 1])

    def test_point_59_a_settle_that_gets_stuck(self):
        machine = self.machine(statement("visit", a=1, b=1), statement("other", a=1, b=1), statement("seen", a=3))
        machine.play([0, 1])
        self.assertEqual(machine.settle(), 1 + 1 + 3)
        self.assertEqual((machine.stuck, machine.ended, machine.unfinished), (True, False, [0, 1]))
        self.assertEqual(machine.faults, [("stuck", 6, 2, None)])


class Order(Machines):
    def test_point_64_no_writer_has_ended(self):
        machine = self.machine(statement("seen", a=1))
        machine.play([0, 0])
        self.assertEqual(machine.order, [])

    def test_point_64_by_rows(self):
        rows = [({"a": 1}, (0, 0)), ({"a": 2}, (0, 0)), ({"a": 3}, (0, 0))]
        machine = self.machine(*[statement("seen", a=value) for value in (9, 3, 1, 2)], rows=rows)
        machine.settle()
        self.assertEqual(machine.order, [2, 3, 1, 0])

    def test_point_64_by_marks(self):
        rows = [({"a": 1}, (0, 0))]
        plans = {"seen": "look a", "visit": "look a, look b", "other": "look b, look a", "new": "look b, look a"}
        ones = [statement("visit", a=1, b=1), statement("seen", a=1), statement("other", a=1, b=1),
                statement("new", a=1, b=1)]
        machine = self.machine(*ones, rows=rows, **plans)
        machine.play([0, 0, 0, 1, 1, 3, 3, 2, 2, 2, 2])
        self.assertEqual(machine.outcomes, [None, ("told", 0, (1, 0)), ("changed", 0, (0, 0)), ("refused", 0, None)])
        self.assertEqual(machine.order, [1, 3, 2])
        machine(0)
        self.assertEqual(machine.order, [0, 1, 3, 2])

    def test_point_64_the_first_write_counts_and_not_the_read(self):
        ones = [statement("visit", a=1, b=1), statement("seen", a=1), statement("visit", a=1, b=2)]
        machine = self.machine(*ones, rows=[({"a": 1}, (0, 0))], visit="look a, look b", seen="look a")
        machine.play([0, 0, 2, 2, 1, 1, 2, 0, 0, 2])
        self.assertEqual(machine.order, [1, 2, 0])

    def test_point_64_a_condition_that_does_not_hold(self):
        rows = [({"a": 1}, (5, 0))]
        machine = self.machine(statement("visit", a=1, b=1), statement("seen", a=1), rows=rows, visit="look a, look b",
                               seen="look a")
        machine.play([0, 1, 1, 0])
        self.assertEqual((machine.order, machine.outcomes[0]), ([1, 0], ("passed", 0, None)))

    def test_point_64_a_row_and_those_that_find_it(self):
        machine = self.machine(statement("seen", a=1), statement("visit", a=1, b=1), statement("seen", a=2))
        machine.play([2, 2, 2])
        machine.play([1] * 5)
        machine.settle()
        self.assertEqual(machine.outcomes, [("told", 1, (0, 0)), ("put", 1, (0, 0)), ("put", 0, (0, 0))])
        self.assertEqual(machine.order, [2, 1, 0])

    def test_point_64_refused_before_and_after(self):
        ones = [statement("new", a=1, b=1), statement("new", a=1, b=2), statement("seen", a=1)]
        machine = self.machine(*ones, rows=[({"a": 1}, (0, 0))], new="look b, look a", seen="look a")
        machine.play([1, 1, 2, 2, 0, 0])
        self.assertEqual(machine.order, [1, 2, 0])
