"""The texts of conditions: points 5 to 8, 13 and 14."""

import itertools

from elseput.conditions import Condition
from elseput.errors import TooLarge
from tests.helpers import BOUND, RESERVED, SIGNS, Case

A = Condition.compare("a", "<", 1)
B = Condition.compare("b", "==", -2)
C = Condition.compare("c", ">=", 30)


def trees_of(size):
    """Every tree over `and` and `or` with that many comparisons of different numbers."""
    return shapes_of(tuple(Condition.compare("n", "<", number) for number in range(size)))


def shapes_of(leaves):
    if len(leaves) == 1:
        return [leaves[0]]
    return [
        left & right if word == "and" else left | right
        for at in range(1, len(leaves))
        for left in shapes_of(leaves[:at])
        for right in shapes_of(leaves[at:])
        for word in ("and", "or")
    ]


class Texts(Case):
    def test_point_13_simple_texts(self):
        self.assertEqual(Condition.always().text(), "always")
        self.assertEqual(Condition.never().text(), "never")
        for sign in SIGNS:
            self.assertEqual(Condition.compare("ab", sign, 0).text(), f"ab {sign} 0")
        self.assertEqual(B.text(), "b == -2")
        self.assertEqual(Condition.compare("n", "<", -BOUND).text(), "n < -1" + "0" * 30)

    def test_point_13_parentheses(self):
        a, b, c = "a < 1", "b == -2", "c >= 30"
        for condition, text in (
            (A & B, f"{a} and {b}"),
            (A | B, f"{a} or {b}"),
            (A & B & C, f"{a} and {b} and {c}"),
            (A & (B & C), f"{a} and ({b} and {c})"),
            (A | B | C, f"{a} or {b} or {c}"),
            (A | (B | C), f"{a} or ({b} or {c})"),
            ((A | B) & C, f"({a} or {b}) and {c}"),
            (A & (B | C), f"{a} and ({b} or {c})"),
            (A & B | C, f"{a} and {b} or {c}"),
            (A | B & C, f"{a} or {b} and {c}"),
            ((A | B) & (B | C), f"({a} or {b}) and ({b} or {c})"),
            (A & (B & (C & A)), f"{a} and ({b} and ({c} and {a}))"),
            (A | (B | (C | A)), f"{a} or ({b} or ({c} or {a}))"),
            ((A & B) | (A & (B | C)), f"{a} and {b} or {a} and ({b} or {c})"),
        ):
            with self.subTest(text=text):
                self.assertEqual(condition.text(), text)
                self.assertEqual(Condition.read(text).tree, condition.tree)

    def test_points_13_and_14_every_small_tree_is_read_back(self):
        for size in range(1, 7):
            seen = {}
            for condition in trees_of(size):
                text = condition.text()
                self.assertEqual(Condition.read(text).tree, condition.tree)
                self.assertEqual(seen.setdefault(text, condition.tree), condition.tree)

    def test_point_13_no_parentheses_could_be_left_out(self):
        for condition in trees_of(5):
            text = condition.text()
            for begin in [at for at, letter in enumerate(text) if letter == "("]:
                fewer = without_pair(text, begin)
                self.assertNotEqual(Condition.read(fewer).tree, condition.tree)


def without_pair(text, begin):
    """The text without the parenthesis at this place and the one that ends it."""
    depth = 0
    for end in range(begin, len(text)):
        depth += {"(": 1, ")": -1}.get(text[end], 0)
        if depth == 0:
            return text[:begin] + text[begin + 1:end] + text[end + 1:]
    raise AssertionError(text)


class Reading(Case):
    def test_point_14_simple_conditions(self):
        for line, tree in (
            ("always", ("always",)), ("never", ("never",)), ("not always", ("never",)), ("not never", ("always",)),
            ("n < 5", ("compare", "n", "<", 5)), ("not n < 5", ("compare", "n", ">=", 5)),
            ("not not n < 5", ("compare", "n", "<", 5)), ("((n != -1))", ("compare", "n", "!=", -1)),
            ("(always)", ("always",)),
        ):
            with self.subTest(line=line):
                self.assertEqual(Condition.read(line).tree, tree)
        for sign in SIGNS:
            self.assertEqual(Condition.read(f"n {sign} 0").tree, ("compare", "n", sign, 0))

    def test_point_14_and_binds_more_than_or(self):
        self.assertEqual(Condition.read("a < 1 or b == -2 and c >= 30").tree, (A | (B & C)).tree)
        self.assertEqual(Condition.read("a < 1 and b == -2 or c >= 30").tree, ((A & B) | C).tree)
        self.assertEqual(Condition.read("a < 1 and (b == -2 or c >= 30)").tree, (A & (B | C)).tree)

    def test_point_14_joined_from_left_to_right(self):
        self.assertEqual(Condition.read("a < 1 and b == -2 and c >= 30").tree, ((A & B) & C).tree)
        self.assertEqual(Condition.read("a < 1 or b == -2 or c >= 30").tree, ((A | B) | C).tree)
        self.assertEqual(Condition.read("a < 1 or (b == -2 or c >= 30)").tree, (A | (B | C)).tree)

    def test_point_14_not_takes_one_factor(self):
        self.assertEqual(Condition.read("not a < 1 and b == -2").tree, (~A & B).tree)
        self.assertEqual(Condition.read("not a < 1 or b == -2").tree, (~A | B).tree)
        self.assertEqual(Condition.read("not (a < 1 and b == -2)").tree, (~(A & B)).tree)
        self.assertEqual(Condition.read("not (a < 1 or not b == -2) and c >= 30").tree, (~(A | ~B) & C).tree)

    def test_point_14_always_and_never_within_a_condition(self):
        self.assertEqual(Condition.read("always and a < 1").tree, A.tree)
        self.assertEqual(Condition.read("a < 1 and never or b == -2").tree, B.tree)
        self.assertEqual(Condition.read("a < 1 or not never").tree, ("always",))
        self.assertEqual(Condition.read("not (never or a < 1)").tree, (~A).tree)

    def test_point_6_spaces(self):
        for line in ("n<-5and(m>=0or not k!=1)", "  n  <  -5  and  (  m  >=  0  or  not  k  !=  1  )  "):
            self.assertEqual(Condition.read(line).text(), "n < -5 and (m >= 0 or k == 1)")

    def test_point_11_reading_too_many_comparisons(self):
        eight = " and ".join(["n < 5"] * 8)
        self.assertEqual(Condition.read(eight).size, 8)
        for line in (eight + " and n < 5", eight + " or n < 5", f"never and ({eight} and n < 5)",
                     f"always or ({eight} or n < 5)", f"{eight} and n < 5 and never", f"not ({eight} or n < 5)"):
            with self.subTest(line=line):
                self.fails(TooLarge, {"most": 8}, Condition.read, line)

    def test_point_14_only_what_is_joined_counts(self):
        eight = " and ".join(["n < 5"] * 8)
        self.assertEqual(Condition.read(eight + " and never").tree, ("never",))
        self.assertEqual(Condition.read("never and " + eight + " and n < 5").tree, ("never",))
        self.assertEqual(Condition.read("never and " + " and ".join(["n < 5"] * 300)).tree, ("never",))
        self.assertEqual(Condition.read(f"always and ({eight})").size, 8)

    def test_point_8_bad_text_comes_before_too_large(self):
        nine = " and ".join(["n < 5"] * 9)
        self.bad_column(Condition.read, nine + " and", len(nine) + 5)
        self.bad_column(Condition.read, nine + " )", len(nine) + 2)
        self.bad_column(Condition.read, f"({nine}) or n < 05", len(nine) + 11)

    def test_point_7_integers(self):
        for token, number in (("0", 0), ("-1", -1), (str(BOUND), BOUND), (str(-BOUND), -BOUND), ("10", 10)):
            self.assertEqual(Condition.read("n < " + token).tree, ("compare", "n", "<", number))
        for token in (str(BOUND + 1), str(-BOUND - 1), "9" * 60, "-" + "9" * 60, "00", "01", "-01", "-0", "-00",
                      "0" * 40, "0" + str(BOUND)):
            self.bad_column(Condition.read, "n < " + token, 5)
            self.bad_column(Condition.read, "n < " + token + " and", 5)

    def test_point_7_names(self):
        self.assertEqual(Condition.read("abcdefghijkl < 1").fields, ("abcdefghijkl",))
        self.bad_column(Condition.read, "abcdefghijklm < 1", 1)
        self.bad_column(Condition.read, "n < 1 and abcdefghijklm < 1", 11)
        for word in RESERVED:
            if word not in ("always", "never", "not"):
                self.bad_column(Condition.read, word + " < 1", 1)
                self.bad_column(Condition.read, "not " + word + " < 1", 5)

    def test_point_7_a_token_that_does_not_fit(self):
        for line, column in (
            ("n 5", 3), ("n < m", 5), ("n < <", 5), ("5 < n", 1), ("n < 5 6", 7), ("n < 5 m", 7), ("n < 5)", 6),
            ("(n < 5))", 8), ("and n < 5", 1), ("n < 5 and or", 11), ("n < 5 and and n < 5", 11), ("()", 2),
            ("n < 5 not n < 5", 7), ("always never", 8), ("always < 5", 8), ("not", 4), ("n <= = 5", 6),
            ("n , 5", 3), ("n < 5; n < 6", 6), ("n < 5 and 6", 11), ("not and", 5), (": n < 5", 1), ("n < (5)", 5),
            ("n and m < 5", 3), ("(n < 5 n < 6)", 8), ("n < 5 (m < 5)", 7), ("n == always", 6),
        ):
            self.bad_column(Condition.read, line, column)

    def test_point_7_a_line_that_ends_too_early(self):
        for line in ("", " ", "    ", "n", "n ", "n <", "n <  ", "not", "not ", "(", "(n < 5", "(n < 5 ", "n < 5 and",
                     "n < 5 or ", "(n < 5 or", "not (always", "((always)", "n < 5 and not"):
            self.bad_column(Condition.read, line, len(line) + 1)

    def test_points_6_and_7_a_strange_character_comes_first(self):
        for line, column in (
            ("n 5 ?", 5), ("and and and #", 13), ("n < 5\n", 6), ("n <\n5", 4), ("\nalways", 1), ("n = 5", 3),
            ("n < 05 and m < -", 16), (") ) A", 5), ("n < 5 and\nm < 5", 10), ("? and and", 1), ("n 5 ? !", 5),
        ):
            self.bad_column(Condition.read, line, column)

    def test_point_14_twenty_are_open(self):
        for opened in ("not " * 20, "(" * 20, "not (" * 10, "(not " * 10, "not " * 19 + "("):
            line = opened + "n < 5" + ")" * opened.count("(")
            with self.subTest(line=line):
                self.assertEqual(Condition.read(line).size, 1)

    def test_point_14_twenty_one_are_not(self):
        for opened, more in (("not " * 20, "not "), ("(" * 20, "("), ("not (" * 10, "not "), ("(not " * 10, "("),
                             ("( " * 20, "not "), ("not " * 20, "(")):
            line = opened + more + "always" + ")" * (opened + more).count("(")
            self.bad_column(Condition.read, line, len(opened) + 1)

    def test_point_14_a_factor_ends_what_is_open(self):
        deep = "not " * 20 + "n < 5"
        self.assertEqual(Condition.read(deep + " and " + deep + " or " + deep).size, 3)
        nested = "(" * 20 + "n < 5" + ")" * 20
        self.assertEqual(Condition.read(nested + " and " + nested + " and " + deep).size, 3)
        inner = "(" * 19 + "not n < 5 and not n < 6" + ")" * 19
        self.assertEqual(Condition.read(inner).size, 2)
        behind = "(" * 19 + "not (n < 5) and n < 6" + ")" * 19
        self.bad_column(Condition.read, behind, 24)
        self.assertEqual(Condition.read("(" * 18 + "not (n < 5) and not (n < 6)" + ")" * 18).size, 2)

    def test_point_7_every_short_line_of_tokens(self):
        words = ("n", "<", "1", "and", "or", "not", "(", ")", "always", "01")
        for size in range(6):
            for line_words in itertools.product(words, repeat=size):
                wrong = first_misfit(line_words)
                line = " ".join(line_words)
                if wrong is None:
                    Condition.read(line)
                else:
                    column = len(" ".join([*line_words[:wrong], ""])) + 1 if wrong < size else len(line) + 1
                    if wrong == 0:
                        column = 1
                    self.bad_text(1, column, Condition.read, line)


def first_misfit(words):
    """The first of few words that does not fit in a condition, by a machine with a stack; None if all is well."""
    place = "factor"
    opened = 0
    for at, word in enumerate(words):
        if place == "factor" and word in ("not", "("):
            opened += word == "("
        elif place == "factor" and word in ("n", "always"):
            place = "sign" if word == "n" else "behind"
        elif place == "sign" and word == "<":
            place = "number"
        elif place == "number" and word == "1":
            place = "behind"
        elif place == "behind" and word in ("and", "or"):
            place = "factor"
        elif place == "behind" and word == ")" and opened > 0:
            opened -= 1
        else:
            return at
    return None if place == "behind" and opened == 0 else len(words)
