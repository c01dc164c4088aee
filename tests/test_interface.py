"""The interface: where its functions and classes are defined, and the attributes of its objects."""

import importlib
import inspect
import types

from elseput.books import Book
from elseput.changes import Change
from elseput.conditions import Condition
from elseput.contents import contents
from elseput.disciplines import Discipline
from elseput.finding import standings
from elseput.judging import Verdict, judge
from elseput.machine import Machine
from elseput.orders import KeyOrder, every_order
from elseput.plans import Plan
from elseput.reports import Report
from elseput.retrying import RetryingMachine
from elseput.rings import obeyed_orders
from elseput.shapes import Shape
from elseput.standings import Meeting, Standing
from elseput.tables import Table
from elseput.visitors import pair_reasons, visitors
from elseput.weavings import Weaving, interleavings
from tests.helpers import Case

FUNCTIONS = {
    "words": ("is_name", "tokens"),
    "contents": ("contents", "least_content", "parting_content"),
    "shapes": ("parting_row",),
    "books": ("merged",),
    "alone": ("answer", "demand", "run_batch"),
    "orders": ("every_order",),
    "weavings": ("interleavings",),
    "replays": ("replay",),
    "visitors": ("visitors", "pair_reasons"),
    "finding": ("standings",),
    "rings": ("obeyed_orders",),
    "judging": ("judge",),
    "parts": ("fault_kinds", "restricted"),
    "rollouts": ("alongside", "compatible", "strictest", "bridge"),
    "least": ("lazy_plan", "needed_locks", "needed_keeps", "lazy", "least", "best_order"),
}
METHODS = {
    ("conditions", "Condition"): ("text", "__call__", "__and__", "__or__", "__invert__"),
    ("changes", "Change"): ("text", "__call__", "__len__", "__rshift__", "__mul__", "__rmul__"),
    ("shapes", "Shape"): ("__init__", "text", "action", "__contains__", "__len__", "__iter__"),
    ("books", "Book"): ("__init__", "text", "__getitem__", "__setitem__", "__contains__", "__len__", "__iter__"),
    ("tables", "Table"): (
        "__init__", "put", "enter", "__getitem__", "content_of", "rows", "write", "twin", "__len__",
    ),
    ("orders", "KeyOrder"): (
        "__init__", "__getitem__", "__contains__", "__len__", "__iter__", "__add__", "__radd__", "__iadd__", "__sub__",
        "__invert__", "__call__",
    ),
    ("plans", "Plan"): (
        "__init__", "text", "fits", "steps_before", "steps_to_look", "holds_at_look", "covers", "pairs", "__len__",
        "__iter__",
    ),
    ("disciplines", "Discipline"): ("__init__", "__getitem__", "__setitem__", "__len__", "__iter__"),
    ("locks", "LockTable"): ("__init__", "blockers", "take", "free", "free_all", "holders", "held"),
    ("machine", "Machine"): (
        "__init__", "__call__", "play", "settle", "rows", "held", "recovered", "resumed", "undo",
    ),
    ("retrying", "RetryingMachine"): ("__init__",),
    ("weavings", "Weaving"): (
        "__init__", "text", "without", "__len__", "__iter__", "__add__", "__iadd__", "__mul__", "__rmul__", "__eq__",
        "__lt__", "__le__",
    ),
    ("standings", "Standing"): ("table", "statements", "weaving", "sentence"),
    ("standings", "Meeting"): ("sentence",),
    ("judging", "Verdict"): ("__bool__",),
    ("reports", "Report"): ("__init__", "change_width", "lines"),
}
STATIC = {
    ("conditions", "Condition"): ("always", "never", "compare", "read"),
    ("changes", "Change"): ("none", "adding", "setting", "read"),
    ("shapes", "Shape"): ("read",),
    ("books", "Book"): ("read",),
    ("plans", "Plan"): ("read",),
    ("weavings", "Weaving"): ("read",),
}
PROPERTIES = {
    ("conditions", "Condition"): ("fields", "size"),
    ("changes", "Change"): ("assigned",),
    ("shapes", "Shape"): ("carried",),
    ("books", "Book"): ("full",),
    ("plans", "Plan"): ("waste",),
    ("disciplines", "Discipline"): ("waste", "locks", "keeps"),
    ("machine", "Machine"): (
        "outcomes", "events", "faults", "waiting", "order", "unfinished", "ring", "ended", "stuck",
    ),
    ("retrying", "RetryingMachine"): ("restarts",),
    ("reports", "Report"): ("width",),
}


def module(name):
    return importlib.import_module("elseput." + name)


def listed(table):
    """The module's name, the class, and a name for each name that the table lists."""
    return [(place[0], getattr(module(place[0]), place[1]), name) for place, names in table.items() for name in names]


class Interface(Case):
    def test_functions_are_defined_in_their_files(self):
        for file, names in FUNCTIONS.items():
            for name in names:
                with self.subTest(name=name):
                    function = getattr(module(file), name)
                    self.assertIsInstance(function, types.FunctionType)
                    self.assertEqual(function.__module__, "elseput." + file)

    def test_methods_stand_in_the_bodies_of_their_classes(self):
        for file, kind, name in listed(METHODS):
            with self.subTest(kind=kind, name=name):
                self.assertEqual(kind.__module__, "elseput." + file)
                self.assertIsInstance(vars(kind)[name], types.FunctionType)

    def test_static_methods_and_properties(self):
        for _, kind, name in listed(STATIC):
            with self.subTest(kind=kind, name=name):
                self.assertIsInstance(vars(kind)[name], staticmethod)
        for _, kind, name in listed(PROPERTIES):
            with self.subTest(kind=kind, name=name):
                self.assertIsInstance(vars(kind)[name], property)

    def test_the_errors_are_defined_in_their_file(self):
        errors = module("errors")
        for name, kind in vars(errors).items():
            if inspect.isclass(kind):
                with self.subTest(name=name):
                    self.assertEqual(kind.__module__, "elseput.errors")

    def test_attributes_are_set_on_each_object(self):
        always, none = Condition.always(), Change.none()
        for thing, names in (
            (always, ("tree",)), (~always, ("tree",)), (none, ("assignments",)), (none * 0, ("assignments",)),
            (Shape("s", [("a", "tell")], always, none), ("name", "arms", "condition", "change")),
            (Book(["a"], ["n"]), ("key_names", "field_names")),
            (KeyOrder(["a"]), ("names",)), (~KeyOrder([]), ("names",)),
            (Plan([("look", "a")]), ("steps", "locked", "kept")),
            (Discipline(Book(["a"], ["n"])), ("book",)),
            (Weaving([]), ("turns",)), (Weaving([0]) * 2, ("turns",)),
        ):
            for name in names:
                with self.subTest(thing=thing, name=name):
                    self.assertTrue(hasattr(thing, name))

    def test_generators(self):
        for function in (contents, every_order, interleavings, standings, obeyed_orders, Report.lines):
            self.assertTrue(inspect.isgeneratorfunction(function))

    def test_arguments_have_the_names_of_the_interface(self):
        self.assertIs(module("words").is_name(text="a"), True)
        self.assertEqual(module("words").tokens(line="a"), [("a", 1)])
        condition = Condition.compare(field="n", sign="<", number=1)
        self.assertEqual(Condition.read(line="n < 1").tree, condition.tree)
        self.assertIs(condition(content={"n": 0}), True)
        self.assertEqual(list(contents(fields=["n"], conditions=[])), [{"n": 0}])
        self.assertEqual(module("contents").least_content(fields=["n"], conditions=[]), {"n": 0})
        self.assertIsNone(module("contents").parting_content(fields=["n"], first=condition, second=condition))
        change = Change.adding(field="n", number=1)
        self.assertEqual(Change.setting(field="n", number=1).text(), "set n 1")
        self.assertEqual(Change.read(line="add n 1").text(), change.text())
        self.assertEqual(change(content={"n": 0}), {"n": 1})
        shape = Shape(name="s", arms=[("a", "change")], condition=condition, change=change)
        self.assertEqual(shape.action(key="a"), "change")
        self.assertEqual(Shape.read(line=shape.text()).text(), shape.text())
        self.assertIsNone(module("shapes").parting_row(fields=["n"], first=shape, second=shape))
        book = Book(key_names=["a"], field_names=["n"])
        self.assertEqual(Book.read(text=book.text()).text(), book.text())
        self.assertEqual(module("books").merged(first=book).text(), book.text())
        table = Table(key_names=["a"], field_names=["n"])
        self.assertEqual(table.put(places={"a": 1}, content={"n": 1}), 0)
        self.assertEqual(table.enter(places={"a": 1}, content={"n": 1}), 1)
        self.assertIsNone(table.write(row=0, field="n", number=5))
        self.assertEqual(table.content_of(row=0), {"n": 5})

    def test_arguments_have_the_names_of_the_interface_in_plans_and_locks(self):
        book = Book(["a"], ["n"], Shape.read("s: a tell"))
        table = Table(["a"], ["n"])
        told = ("s", {"a": 1}, {"n": 1})
        self.assertEqual(module("alone").answer(book=book, table=table, statement=told), ("put", 0, (1,)))
        self.assertEqual(module("alone").demand(book=book, table=table, statement=told), ("told", 0, (1,)))
        self.assertEqual(module("alone").run_batch(book=book, table=table), [])
        order = KeyOrder(names=["a"])
        self.assertEqual(order(names=["a"]), ["a"])
        self.assertEqual([found.names for found in every_order(names=["a"])], [("a",)])
        plan = Plan(steps=[("take", "a"), ("look", "a")], locked=["a"], kept=["a"])
        self.assertEqual(Plan.read(line=plan.text()).text(), plan.text())
        self.assertIs(plan.fits(shape=book["s"]), True)
        self.assertEqual((plan.steps_before(key="a"), plan.steps_to_look(key="a")), (0, 2))
        self.assertEqual((plan.holds_at_look(key="a"), plan.covers(key="a")), (True, True))
        self.assertEqual(len(Discipline(book=book)), 1)
        locks = module("locks").LockTable()
        self.assertIs(locks.take(place=("p",), writer=0, mode="hold"), True)
        self.assertEqual(locks.blockers(place=("p",), writer=1, mode="share"), [0])
        self.assertEqual((locks.holders(place=("p",)), locks.held(writer=0)), ([(0, "hold")], [("p",)]))
        self.assertIs(locks.free(place=("p",), writer=0), True)
        self.assertEqual(locks.free_all(writer=0), 0)

    def test_arguments_have_the_names_of_the_interface_in_machines(self):
        book = Book(["a"], ["n"], Shape.read("s: a tell"))
        told = ("s", {"a": 1}, {"n": 1})
        for kind in (Machine, RetryingMachine):
            machine = kind(discipline=Discipline(book), table=Table(["a"], ["n"]), statements=[told])
            self.assertEqual(machine(writer=0), (0, "take", "a"))
            self.assertEqual(machine.held(writer=0), [("key", "a", 1)])
            self.assertEqual(machine.undo(count=1).turns, (0,))
            self.assertEqual(machine.play(turns=[0]), [(0, "take", "a")])
        self.assertTrue(issubclass(RetryingMachine, Machine))
        self.assertEqual(Weaving.read(line="0 1").without(writer=0).turns, (1,))
        self.assertEqual([found.turns for found in interleavings(counts=[1])], [(0,)])
        self.assertEqual(Weaving(turns=[2]).text(), "2")
        found = module("replays").replay(book=book, table=Table(["a"], ["n"]), statements=[told], order=[])
        self.assertEqual(found, ([], [None]))

    def test_arguments_have_the_names_of_the_interface_in_standings(self):
        book = Book(["a"], ["n"], Shape.read("s: a tell"))
        self.assertEqual(visitors(book=book), [("s", "a")])
        discipline = Discipline(book=book)
        self.assertEqual(pair_reasons(discipline=discipline), [(("s", "a"), ("s", "a"), "harmless")])
        self.assertEqual([order.names for order in obeyed_orders(discipline=discipline)], [("a",)])
        discipline["s"] = Plan([("look", "a")])
        found = list(standings(discipline=discipline))
        self.assertEqual([type(standing) for standing in found], [Standing])
        for name in ("kind", "names", "path", "cost"):
            self.assertIn(name, vars(found[0]))
        self.assertTrue(issubclass(Meeting, Standing))

    def test_arguments_have_the_names_of_the_interface_in_judging_and_after_it(self):
        book = Book(["a"], ["n"], Shape.read("s: a tell"))
        found = Discipline(book)
        verdict = judge(discipline=found)
        self.assertIs(type(verdict), Verdict)
        self.assertEqual((verdict.safe, verdict.standing, verdict.order.names), (True, None, ("a",)))
        for name in ("safe", "standing"):
            self.assertIn(name, vars(verdict))
        self.assertIs(verdict.order, verdict.order)
        parts, rollouts, least = module("parts"), module("rollouts"), module("least")
        self.assertEqual(parts.fault_kinds(discipline=found), [])
        self.assertEqual(len(parts.restricted(discipline=found, names=["s"])), 1)
        self.assertEqual(len(rollouts.alongside(first=found, second=found, names=["t"])), 2)
        self.assertIs(rollouts.compatible(first=found, second=found), True)
        order = least.best_order(book=book)
        self.assertEqual(len(rollouts.strictest(book=book, order=order)), 1)
        self.assertEqual(rollouts.bridge(old=found, new=found), [])
        plan = least.lazy_plan(shape=book["s"], order=order, locked=("a",), kept=("a",))
        self.assertEqual(plan.text(), "take a, look a; lock a; keep a")
        self.assertEqual((least.needed_locks(book=book), least.needed_keeps(book=book)), ([], []))
        self.assertEqual([len(least.lazy(book=book, order=order)), len(least.least(book=book))], [1, 1])
        report = Report(machine=Machine(found, Table(["a"], ["n"]), []), width=5)
        self.assertIsNone(report.change_width(value=6))
        self.assertEqual((report.width, list(report.lines())), (6, []))

    def test_widths_and_keys_are_given_by_name_only(self):
        machine = Machine(Discipline(Book(["a"], ["n"])), Table(["a"], ["n"]), [])
        shape, order = Shape.read("s: a tell"), KeyOrder(["a"])
        for call in (lambda: Report(machine, 5), lambda: module("least").lazy_plan(shape, order, ["a"]),
                     lambda: Plan([("look", "a")], ["a"])):
            with self.assertRaises(TypeError):
                call()
