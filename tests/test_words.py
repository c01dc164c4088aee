"""Names and tokens: points 4, 6 and 7."""

import itertools

from elseput.words import is_name, tokens
from tests.helpers import BAD_NAMES, RESERVED, Case

LETTERS = "abcdefghijklmnopqrstuvwxyz"


class Names(Case):
    def test_point_4_names_have_1_to_12_letters(self):
        for name in ("a", "z", "visit", LETTERS[:11], LETTERS[:12], LETTERS[14:]):
            with self.subTest(name=name):
                self.assertIs(is_name(name), True)
        self.assertIs(is_name(LETTERS[:13]), False)
        self.assertIs(is_name(LETTERS), False)
        self.assertIs(is_name(""), False)

    def test_point_4_each_letter_may_stand_in_a_name(self):
        for letter in LETTERS:
            self.assertIs(is_name(letter), True)
            self.assertIs(is_name("x" + letter + "x"), True)

    def test_point_4_no_other_character_stands_in_a_name(self):
        for code in [*range(32, 127), 9, 10, 223, 233, 178]:
            if chr(code) not in LETTERS:
                for name in (chr(code), "ab" + chr(code), chr(code) + "ab", "a" + chr(code) + "b"):
                    with self.subTest(name=name):
                        self.assertIs(is_name(name), False)

    def test_point_4_no_reserved_word_is_a_name(self):
        self.assertEqual(len(RESERVED), 18)
        for name in BAD_NAMES:
            with self.subTest(name=name):
                self.assertIs(is_name(name), False)

    def test_point_4_a_name_may_contain_a_reserved_word(self):
        for word in RESERVED:
            with self.subTest(word=word):
                self.assertIs(is_name(word + "x"), True)
                self.assertIs(is_name("x" + word), True)
        for word in ("key", "field", "lose", "put", "no"):
            self.assertIs(is_name(word), True)


class Tokens(Case):
    def test_point_6_an_ordinary_line(self):
        self.assertEqual(
            tokens("visit: a change; add n -12"),
            [("visit", 1), (":", 6), ("a", 8), ("change", 10), (";", 16), ("add", 18), ("n", 22), ("-12", 24)],
        )

    def test_point_6_tokens_side_by_side(self):
        self.assertEqual(
            tokens("n<5and(m>=-3)"),
            [("n", 1), ("<", 2), ("5", 3), ("and", 4), ("(", 7), ("m", 8), (">=", 9), ("-3", 11), (")", 13)],
        )
        self.assertEqual(tokens("a1b22"), [("a", 1), ("1", 2), ("b", 3), ("22", 4)])
        self.assertEqual(tokens("5-3-0"), [("5", 1), ("-3", 2), ("-0", 4)])
        self.assertEqual(tokens("-5a"), [("-5", 1), ("a", 3)])

    def test_point_6_each_token_is_as_long_as_possible(self):
        self.assertEqual(tokens("<<="), [("<", 1), ("<=", 2)])
        self.assertEqual(tokens("<==="), [("<=", 1), ("==", 3)])
        self.assertEqual(tokens(">=<>"), [(">=", 1), ("<", 3), (">", 4)])
        self.assertEqual(tokens("!=<"), [("!=", 1), ("<", 3)])
        self.assertEqual(tokens("andor" + "x" * 20), [("andor" + "x" * 20, 1)])
        self.assertEqual(tokens("0012"), [("0012", 1)])

    def test_point_6_signs_and_marks_alone(self):
        for token in ("<", "<=", "==", "!=", ">=", ">", "(", ")", ",", ";", ":", "7", "-7", "word"):
            with self.subTest(token=token):
                self.assertEqual(tokens(token), [(token, 1)])
                self.assertEqual(tokens("  " + token + " "), [(token, 3)])

    def test_point_6_marks_are_tokens_of_one_character(self):
        self.assertEqual(tokens("(),;:"), [("(", 1), (")", 2), (",", 3), (";", 4), (":", 5)])

    def test_point_6_spaces_separate_and_are_no_tokens(self):
        self.assertEqual(tokens("a b"), [("a", 1), ("b", 3)])
        self.assertEqual(tokens("1  2"), [("1", 1), ("2", 4)])
        self.assertEqual(tokens("<  <"), [("<", 1), ("<", 4)])
        self.assertEqual(tokens("   "), [])
        self.assertEqual(tokens(""), [])

    def test_points_6_and_7_characters_of_no_token(self):
        for line, column in (
            ("a\nb", 2), ("\n", 1), ("a \n", 3), ("12\n", 3), ("a = 5", 3), ("a === 5", 5), ("<==", 3), ("! =", 1),
            ("!", 1), ("a!b", 2), ("-", 1), ("- 5", 1), ("--5", 1), ("a -b", 3), ("5-", 2), ("A", 1), ("aB", 2),
            ("a.b", 2), ("a_b", 2), ("n < 5 {", 7), ("  ;?", 4), ("+5", 1), ("=", 1), ("=<", 1), ("a~", 2),
        ):
            self.bad_column(tokens, line, column)

    def test_point_7_the_leftmost_strange_character(self):
        self.bad_column(tokens, "a ? b ! c", 3)
        self.bad_column(tokens, "??", 1)

    def test_point_6_against_every_short_line(self):
        for size in range(5):
            for letters in itertools.product("a1-<=! ", repeat=size):
                line = "".join(letters)
                with self.subTest(line=line):
                    expected, column = longest_tokens(line)
                    if column is None:
                        self.assertEqual(tokens(line), expected)
                    else:
                        self.bad_text(1, column, tokens, line)

    def test_point_3_tokens_returns_a_new_list_of_tuples(self):
        first = tokens("a b")
        first.append(("c", 5))
        self.assertEqual(tokens("a b"), [("a", 1), ("b", 3)])
        self.assertTrue(all(type(pair) is tuple for pair in first))


def longest_tokens(line):
    """The tokens of a line of few letters, and the column of the first character of none, by trying all lengths."""
    found = []
    at = 0
    while at < len(line):
        sizes = [size for size in range(1, len(line) - at + 1) if is_token(line[at:at + size])]
        if sizes:
            found.append((line[at:at + max(sizes)], at + 1))
            at += max(sizes)
        elif line[at] == " ":
            at += 1
        else:
            return found, at + 1
    return found, None


def is_token(text):
    if text in ("<", "<=", "==", "!="):
        return True
    if text.strip("a") == "":
        return True
    return text.removeprefix("-") != "" and text.removeprefix("-").strip("1") == ""
