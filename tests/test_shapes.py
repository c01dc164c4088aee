"""Shapes: points 7, 8 and 24 to 27."""

from elseput.changes import Change
from elseput.conditions import Condition
from elseput.errors import BadName, BadShape, TooLarge, UnknownKey
from elseput.shapes import Shape
from tests.helpers import BAD_NAMES, Case

ALWAYS = Condition.always()
NONE = Change.none()
ADD = Change.adding("n", 1)
LESS = Condition.compare("n", "<", 5)
read = Shape.read


class Making(Case):
    def test_points_24_and_25_the_attributes(self):
        shape = Shape("visit", [("a", "change"), ("b", "tell"), ("c", "refuse")], LESS, ADD)
        self.assertEqual(shape.name, "visit")
        self.assertEqual(shape.arms, (("a", "change"), ("b", "tell"), ("c", "refuse")))
        self.assertEqual(shape.condition.tree, LESS.tree)
        self.assertEqual(shape.change.assignments, ADD.assignments)

    def test_points_3_and_25_the_arms_are_copied(self):
        arms = [["b", "change"], ["a", "tell"]]
        shape = Shape("visit", arms, ALWAYS, ADD)
        arms.append(["c", "tell"])
        arms[0][1] = "refuse"
        self.assertEqual(shape.arms, (("b", "change"), ("a", "tell")))
        self.assertTrue(type(shape.arms) is tuple and all(type(arm) is tuple for arm in shape.arms))

    def test_point_25_one_to_four_arms(self):
        arms = [(key, "tell") for key in "abcde"]
        for many in (1, 2, 3, 4):
            self.assertEqual(len(Shape("s", arms[:many], ALWAYS, NONE)), many)
        for many in (0, 5):
            self.fails(BadShape, {"name": "s"}, Shape, "s", arms[:many], ALWAYS, NONE)

    def test_point_25_names_are_checked_first(self):
        for name in BAD_NAMES:
            with self.subTest(name=name):
                self.fails(BadName, {"name": name}, Shape, name, [("Q", "x")], LESS, ADD)
                self.fails(BadName, {"name": name}, Shape, "s", [("a", "x"), (name, "tell"), ("R", "tell")], LESS, NONE)

    def test_point_25_bad_name_comes_before_bad_shape(self):
        self.fails(BadName, {"name": "S"}, Shape, "S", [], ALWAYS, NONE)
        self.fails(BadName, {"name": "E"}, Shape, "s", [(key, "tell") for key in "abcdE"], ALWAYS, NONE)
        self.fails(BadName, {"name": "B"}, Shape, "s", [("a", "jump"), ("a", "tell"), ("B", "tell")], ALWAYS, ADD)

    def test_point_25_a_key_with_two_arms(self):
        self.fails(BadShape, {"name": "s"}, Shape, "s", [("a", "tell"), ("a", "tell")], ALWAYS, NONE)
        self.fails(BadShape, {"name": "s"}, Shape, "s", [("a", "change"), ("b", "tell"), ("a", "tell")], ALWAYS, ADD)

    def test_point_25_an_unknown_action(self):
        for action in ("", "jump", "Tell", "take", "changes"):
            self.fails(BadShape, {"name": "s"}, Shape, "s", [("a", action)], ALWAYS, NONE)
            self.fails(BadShape, {"name": "s"}, Shape, "s", [("a", "change"), ("b", action)], ALWAYS, ADD)

    def test_point_25_a_change_arm_needs_assignments(self):
        self.fails(BadShape, {"name": "s"}, Shape, "s", [("a", "change")], ALWAYS, NONE)
        self.fails(BadShape, {"name": "s"}, Shape, "s", [("a", "tell"), ("b", "change")], LESS, NONE)
        self.assertEqual(len(Shape("s", [("a", "tell"), ("b", "change")], LESS, ADD)), 2)
        self.assertEqual(Shape("s", [("a", "change")], Condition.never(), ADD).condition.tree, ("never",))

    def test_point_25_no_change_arm_allows_no_condition_and_no_assignments(self):
        for arms in ([("a", "tell")], [("a", "refuse")], [("a", "tell"), ("b", "refuse")]):
            self.assertEqual(len(Shape("s", arms, ALWAYS, NONE)), len(arms))
            self.fails(BadShape, {"name": "s"}, Shape, "s", arms, LESS, NONE)
            self.fails(BadShape, {"name": "s"}, Shape, "s", arms, Condition.never(), NONE)
            self.fails(BadShape, {"name": "s"}, Shape, "s", arms, ALWAYS, ADD)
            self.fails(BadShape, {"name": "s"}, Shape, "s", arms, LESS, ADD)


class Asking(Case):
    def setUp(self):
        self.shape = Shape("visit", (("c", "change"), ("a", "tell"), ("b", "refuse")), ALWAYS, ADD)

    def test_point_26_carried(self):
        self.assertEqual(self.shape.carried, ("c", "a", "b"))

    def test_point_26_action(self):
        self.assertEqual([self.shape.action(key) for key in "abc"], ["tell", "refuse", "change"])

    def test_point_26_a_key_that_it_does_not_carry(self):
        for key in ("d", "visit", "", "change", "A"):
            self.fails(UnknownKey, {"name": key}, self.shape.action, key)
            self.assertIs(key in self.shape, False)

    def test_point_26_in_length_and_iteration(self):
        for key in "abc":
            self.assertIs(key in self.shape, True)
        self.assertEqual(len(self.shape), 3)
        self.assertEqual(list(self.shape), [("c", "change"), ("a", "tell"), ("b", "refuse")])
        self.assertEqual([key for key, _ in self.shape], ["c", "a", "b"])


class Texts(Case):
    def test_point_27_texts(self):
        arms = [("a", "change"), ("b", "refuse")]
        two = Change.setting("n", 0) >> Change.adding("m", -2)
        for shape, text in (
            (Shape("visit", arms, ALWAYS, ADD), "visit: a change, b refuse; add n 1"),
            (Shape("visit", arms, LESS, two), "visit: a change, b refuse; when n < 5; set n 0, add m -2"),
            (Shape("visit", arms, Condition.never(), ADD), "visit: a change, b refuse; when never; add n 1"),
            (Shape("find", [("b", "tell")], ALWAYS, NONE), "find: b tell"),
            (Shape("visit", arms, LESS | LESS & (LESS | LESS), ADD),
             "visit: a change, b refuse; when n < 5 or n < 5 and (n < 5 or n < 5); add n 1"),
        ):
            with self.subTest(text=text):
                self.assertEqual(shape.text(), text)
                self.assertEqual(read(text).text(), text)

    def test_point_27_reading(self):
        shape = read("visit:a change,b tell;when n<5or never;add n 1,set m-2,add n 3")
        self.assertEqual(shape.name, "visit")
        self.assertEqual(shape.arms, (("a", "change"), ("b", "tell")))
        self.assertEqual(shape.condition.tree, ("compare", "n", "<", 5))
        self.assertEqual(shape.change.assignments, (("n", "add", 4), ("m", "set", -2)))
        self.assertIs(type(shape), Shape)

    def test_point_27_parts_that_may_be_left_out(self):
        self.assertEqual(read("s: a tell").condition.tree, ("always",))
        self.assertEqual(read("s: a tell").change.assignments, ())
        self.assertEqual(read("s: a change; add n 1").condition.tree, ("always",))
        self.assertEqual(read("  s  :  a  change  ;  add  n  1  ").text(), "s: a change; add n 1")
        self.assertEqual(read("s: a change; when always; add n 1").text(), "s: a change; add n 1")
        self.assertEqual(read("s: a tell; when always").text(), "s: a tell")

    def test_point_27_a_line_that_reads_well_and_makes_no_shape(self):
        for line in ("s: a change", "s: a change; when n < 5", "s: a tell; add n 1", "s: a refuse; when n < 5",
                     "s: a tell, a tell", "s: a tell; when never", "s: a tell, b tell, c tell, d tell, e tell",
                     "s: a tell; when n < 5; add n 1", "s: a change, a tell; add n 1"):
            with self.subTest(line=line):
                self.fails(BadShape, {"name": "s"}, read, line)

    def test_points_8_and_27_the_condition_is_built_first_then_the_change(self):
        nine = " and ".join(["n < 5"] * 9)
        four = "add a 1, add b 1, add c 1, add d 1"
        self.fails(TooLarge, {"most": 8}, read, f"s: a tell, a tell; when {nine}; {four}")
        self.fails(TooLarge, {"most": 3}, read, f"s: a tell, a tell; when n < 5; {four}")
        self.fails(TooLarge, {"most": 3}, read, f"s: a tell; {four}")
        self.fails(BadShape, {"name": "s"}, read, "s: a tell, a tell; when n < 5; add n 1")

    def test_point_8_bad_text_comes_first(self):
        nine = " and ".join(["n < 5"] * 9)
        line = f"s: a tell, a tell; when {nine}; add n 1,"
        self.bad_column(read, line, len(line) + 1)
        line = f"s: a tell, a tell; when {nine}; add n 1 "
        self.bad_column(read, line + ";", len(line) + 1)
        self.bad_column(read, "s: a tell, a tell, a", 21)

    def test_point_7_a_token_that_does_not_fit(self):
        for line, column in (
            ("add: a tell", 1), (": a tell", 1), ("s a tell", 3), ("s; a tell", 2), ("s: tell", 4), ("s: a", 5),
            ("s: a jump", 6), ("s: a tell b tell", 11), ("s: a tell,, b tell", 11), ("s: a tell, tell", 12),
            ("s: a tell when n < 5", 11), ("s: a tell; n < 5", 12), ("s: a tell; tell n 1", 12),
            ("s: a change; when add n 1", 19), ("s: a change; when n < 5 add n 1", 25),
            ("s: a change; when n < 5, add n 1", 24), ("s: a change; when n < 5; when n < 5", 26),
            ("s: a change; add n 1; when n < 5", 21), ("s: a change; add n 1; add m 1", 21),
            ("s: a change; add n 1 add m 1", 22), ("s: a change;; add n 1", 13),
            ("s: a change; when (n < 5; add n 1", 25),
            ("abcdefghijklm: a tell", 1), ("s: abcdefghijklm tell", 4), ("s: 1 tell", 4), ("s: a tell: b tell", 10),
            ("s: a take", 6), ("s: keys tell", 4), ("s: a tell; 5", 12), ("s: a tell; lock a", 12),
            ("s: a change; when n < 007; add n 1", 23), ("s: a change; add n 007", 20), ("s:: a tell", 3),
        ):
            self.bad_column(read, line, column)

    def test_point_7_a_line_that_ends_too_early(self):
        for line in ("", "  ", "s", "s:", "s: ", "s: a", "s: a tell,", "s: a tell, b", "s: a tell;", "s: a change ; ",
                     "s: a change; when", "s: a change; when n", "s: a change; when n <", "s: a change; when n < 5;",
                     "s: a change; when (n < 5", "s: a change; add", "s: a change; add n", "s: a change; add n 1,"):
            self.bad_column(read, line, len(line) + 1)

    def test_point_7_a_strange_character_comes_first(self):
        for line, column in (("s s s ?", 7), ("s: a tell\n", 10), ("s: a tell; Tell", 12),
                             ("add: a tell; when n = 5", 21)):
            self.bad_column(read, line, column)

    def test_point_14_deep_conditions_in_a_shape(self):
        self.assertEqual(read("s: a change; when " + "not " * 20 + "n < 5; add n 1").text(),
                         "s: a change; when n < 5; add n 1")
        self.bad_column(read, "s: a change; when " + "not " * 21 + "n < 5; add n 1", 19 + 80)
