"""Conditions, their joining and their calling: points 5 and 9 to 12."""

import itertools

from elseput.conditions import Condition
from elseput.errors import BadName, BadNumber, BadSign, TooLarge, UnknownField
from tests.helpers import BAD_NAMES, BOUND, SIGNS, Case

ALWAYS = ("always",)
NEVER = ("never",)
OPPOSITE = {"<": ">=", ">=": "<", "<=": ">", ">": "<=", "==": "!=", "!=": "=="}


def compare(field="n", sign="<", number=5):
    return Condition.compare(field, sign, number)


def chain(many, word="and"):
    """That many comparisons of different numbers, joined from left to right."""
    whole = compare("n", "<", 0)
    for number in range(1, many):
        part = compare("n", "<", number)
        whole = whole & part if word == "and" else whole | part
    return whole


class Making(Case):
    def test_point_9_trees(self):
        self.assertEqual(Condition.always().tree, ALWAYS)
        self.assertEqual(Condition.never().tree, NEVER)
        for sign in SIGNS:
            self.assertEqual(compare("ab", sign, -3).tree, ("compare", "ab", sign, -3))
        self.assertIs(type((compare() & compare()).tree), tuple)

    def test_compare_checks_the_field(self):
        for name in BAD_NAMES:
            with self.subTest(name=name):
                self.fails(BadName, {"name": name}, Condition.compare, name, "<", 5)

    def test_compare_checks_the_sign(self):
        for sign in ("", "=", "<>", "!", "=<", "=>", "===", "not", "and", " <", "is", "< "):
            with self.subTest(sign=sign):
                self.fails(BadSign, {"sign": sign}, Condition.compare, "n", sign, 5)

    def test_point_5_compare_checks_the_number(self):
        for number in (BOUND, -BOUND, 0, BOUND - 1):
            self.assertEqual(compare("n", "<", number).tree[3], number)
        for number in (BOUND + 1, -BOUND - 1, BOUND * 10 ** 20):
            self.fails(BadNumber, {"value": number}, Condition.compare, "n", "<", number)

    def test_compare_checks_in_order(self):
        self.fails(BadName, {"name": "and"}, Condition.compare, "and", "=", BOUND + 1)
        self.fails(BadSign, {"sign": "="}, Condition.compare, "n", "=", BOUND + 1)

    def test_point_11_most_is_a_value_of_the_class(self):
        self.assertEqual(Condition.MOST, 8)
        self.assertEqual(compare().MOST, 8)

    def test_fields_are_sorted_without_duplicates(self):
        whole = compare("z") & compare("b") | compare("z") & ~compare("ba")
        self.assertEqual(whole.fields, ("b", "ba", "z"))
        self.assertEqual(compare("q").fields, ("q",))
        self.assertEqual(Condition.always().fields, ())
        self.assertEqual(Condition.never().fields, ())

    def test_size_is_the_number_of_comparisons(self):
        self.assertEqual(Condition.always().size, 0)
        self.assertEqual(Condition.never().size, 0)
        self.assertEqual(compare().size, 1)
        self.assertEqual((compare() & compare()).size, 2)
        self.assertEqual((compare() & (compare() | ~compare("a"))).size, 3)
        self.assertEqual(chain(8).size, 8)


class Joining(Case):
    def setUp(self):
        self.a = compare("a", "<", 1)
        self.b = compare("b", "==", 2)
        self.always = Condition.always()
        self.never = Condition.never()

    def test_point_10_and_of_comparisons(self):
        self.assertEqual((self.a & self.b).tree, ("and", self.a.tree, self.b.tree))
        self.assertEqual((self.b & self.a).tree, ("and", self.b.tree, self.a.tree))
        self.assertEqual((self.a & self.a).tree, ("and", self.a.tree, self.a.tree))

    def test_point_10_or_of_comparisons(self):
        self.assertEqual((self.a | self.b).tree, ("or", self.a.tree, self.b.tree))
        self.assertEqual((self.b | self.a).tree, ("or", self.b.tree, self.a.tree))

    def test_point_10_parts_are_not_regrouped(self):
        both = self.a & self.b
        self.assertEqual((both & self.a).tree, ("and", both.tree, self.a.tree))
        self.assertEqual((self.a & both).tree, ("and", self.a.tree, both.tree))
        self.assertEqual((self.a | both).tree, ("or", self.a.tree, both.tree))

    def test_point_10_and_with_always_and_never(self):
        for left, right, tree in (
            (self.a, self.always, self.a.tree), (self.always, self.a, self.a.tree),
            (self.a, self.never, NEVER), (self.never, self.a, NEVER),
            (self.always, self.always, ALWAYS), (self.never, self.never, NEVER),
            (self.always, self.never, NEVER), (self.never, self.always, NEVER),
        ):
            with self.subTest(left=left.tree, right=right.tree):
                self.assertEqual((left & right).tree, tree)

    def test_point_10_or_with_always_and_never(self):
        for left, right, tree in (
            (self.a, self.always, ALWAYS), (self.always, self.a, ALWAYS),
            (self.a, self.never, self.a.tree), (self.never, self.a, self.a.tree),
            (self.always, self.always, ALWAYS), (self.never, self.never, NEVER),
            (self.always, self.never, ALWAYS), (self.never, self.always, ALWAYS),
        ):
            with self.subTest(left=left.tree, right=right.tree):
                self.assertEqual((left | right).tree, tree)

    def test_point_10_the_opposite_of_each_form(self):
        self.assertEqual((~self.always).tree, NEVER)
        self.assertEqual((~self.never).tree, ALWAYS)
        for sign in SIGNS:
            self.assertEqual((~compare("n", sign, -4)).tree, ("compare", "n", OPPOSITE[sign], -4))
        na, nb = ("compare", "a", ">=", 1), ("compare", "b", "!=", 2)
        self.assertEqual((~(self.a & self.b)).tree, ("or", na, nb))
        self.assertEqual((~(self.a | self.b)).tree, ("and", na, nb))
        self.assertEqual((~(self.a & (self.b | self.a))).tree, ("or", na, ("and", nb, na)))
        self.assertEqual((~((self.a & self.b) | self.b)).tree, ("and", ("or", na, nb), nb))

    def test_points_3_and_10_the_results_are_new_and_the_parts_unchanged(self):
        tree = self.a.tree
        for result in (self.a & self.always, self.always & self.a, self.a | self.never, self.never | self.a,
                       self.a & self.b, self.a | self.b, ~self.a):
            self.assertIsNot(result, self.a)
            self.assertIs(type(result), Condition)
        self.assertEqual((self.a.tree, self.always.tree, self.never.tree), (tree, ALWAYS, NEVER))

    def test_point_11_eight_comparisons_are_allowed(self):
        self.assertEqual((chain(4) & chain(4)).size, 8)
        self.assertEqual((chain(7) | self.a).size, 8)
        self.assertEqual((self.a & chain(7, "or")).size, 8)
        self.assertEqual((~chain(8)).size, 8)

    def test_point_11_nine_are_not(self):
        for left, right in ((8, 1), (1, 8), (5, 4), (8, 8)):
            with self.subTest(left=left, right=right):
                self.fails(TooLarge, {"most": 8}, lambda: chain(left) & chain(right))
                self.fails(TooLarge, {"most": 8}, lambda: chain(left) | chain(right))
                self.fails(TooLarge, {"most": 8}, lambda: chain(left, "or") & chain(right, "or"))

    def test_point_11_only_the_result_counts(self):
        whole = chain(8)
        self.assertEqual((whole & self.always).tree, whole.tree)
        self.assertEqual((self.always & whole).tree, whole.tree)
        self.assertEqual((whole & self.never).tree, NEVER)
        self.assertEqual((whole | self.always).tree, ALWAYS)
        self.assertEqual((self.never | whole).tree, whole.tree)


class Calling(Case):
    def test_point_12_each_sign(self):
        expected = {"<": (True, False, False), "<=": (True, True, False), "==": (False, True, False),
                    "!=": (True, False, True), ">=": (False, True, True), ">": (False, False, True)}
        for sign in SIGNS:
            for number, holds in zip((4, 5, 6), expected[sign]):
                with self.subTest(sign=sign, number=number):
                    self.assertIs(compare("n", sign, 5)({"n": number}), holds)

    def test_point_12_and_or_always_never(self):
        a, b = compare("a", ">", 0), compare("b", ">", 0)
        for left, right in itertools.product((0, 1), repeat=2):
            content = {"a": left, "b": right}
            self.assertIs((a & b)(content), bool(left and right))
            self.assertIs((a | b)(content), bool(left or right))
            self.assertIs((~(a & b))(content), not (left and right))
            self.assertIs((~(a | b))(content), not (left or right))
            self.assertIs((~a & b | a & ~b)(content), left != right)
        self.assertIs(Condition.always()({}), True)
        self.assertIs(Condition.never()({}), False)
        self.assertIs(Condition.always()({"n": 1}), True)

    def test_point_12_large_numbers(self):
        self.assertIs(compare("n", ">", BOUND)({"n": BOUND + 1}), True)
        self.assertIs(compare("n", "==", -BOUND)({"n": -BOUND * 10 ** 10}), False)

    def test_point_12_more_fields_than_compared(self):
        self.assertIs(compare("n")({"a": 9, "n": 1, "z": 9}), True)

    def test_point_12_the_first_missing_field_in_alphabetical_order(self):
        whole = compare("n", "<", 5) & (compare("z", "<", 5) | compare("b", "<", 5))
        self.fails(UnknownField, {"name": "b"}, whole, {})
        self.fails(UnknownField, {"name": "n"}, whole, {"b": 1})
        self.fails(UnknownField, {"name": "z"}, whole, {"b": 1, "n": 9})
        self.fails(UnknownField, {"name": "b"}, whole, {"z": 1, "n": 1})

    def test_point_12_whatever_the_other_parts_say(self):
        self.fails(UnknownField, {"name": "b"}, compare("a") & compare("b"), {"a": 9})
        self.fails(UnknownField, {"name": "b"}, compare("a") | compare("b"), {"a": 1})
        self.fails(UnknownField, {"name": "a"}, compare("b") | compare("a"), {"b": 1})

    def test_point_3_the_content_is_not_changed(self):
        content = {"n": 1, "m": 2}
        compare("n")(content)
        self.assertEqual(list(content.items()), [("n", 1), ("m", 2)])
