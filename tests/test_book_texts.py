"""The texts of books: points 7, 8 and 33."""

from elseput.books import Book
from elseput.errors import BadBook, BadShape, BadText, TooLarge, UnknownField, UnknownKey
from elseput.shapes import Shape
from tests.helpers import Case

read = Book.read
EXAMPLE = "keys a b\nfields n\nvisit: a change, b change; add n 1\nreset: b change, a change; set n 0"


class Texts(Case):
    def test_point_33_texts(self):
        self.assertEqual(Book(["a"], ["n"]).text(), "keys a\nfields n")
        book = Book(["b", "a", "cc"], ["n", "m"], Shape.read("s:b tell"), Shape.read("r:a change;when n<1;add m 1"))
        self.assertEqual(book.text(), "keys b a cc\nfields n m\ns: b tell\nr: a change; when n < 1; add m 1")

    def test_point_33_a_text_is_read_back(self):
        for text in (EXAMPLE, "keys a\nfields n", "keys d c b a\nfields n m k\ns: c refuse"):
            self.assertEqual(read(text).text(), text)

    def test_point_33_reading(self):
        book = read(" keys  b a \nfields n  m\ns:a change;add m 1")
        self.assertEqual((book.key_names, book.field_names), (("b", "a"), ("n", "m")))
        self.assertEqual([one.text() for one in book], ["s: a change; add m 1"])
        self.assertIs(type(book), Book)

    def test_point_33_one_line_alone(self):
        self.bad_text(2, 1, read, "keys a")
        self.bad_text(2, 1, read, "keys a b c d e e")
        self.bad_text(1, 5, read, "keys")
        self.bad_text(1, 1, read, "")
        self.bad_text(1, 1, read, "fields n")
        self.bad_text(1, 7, read, "keys a,")
        self.bad_text(1, 8, read, "keys a ?")

    def test_point_33_an_empty_line_is_a_bad_line(self):
        self.bad_text(1, 1, read, "\nkeys a\nfields n")
        self.bad_text(2, 1, read, "keys a\n")
        self.bad_text(2, 1, read, "keys a\n\nfields n")
        self.bad_text(3, 1, read, "keys a\nfields n\n")
        self.bad_text(4, 1, read, "keys a\nfields n\ns: a tell\n")
        self.bad_text(3, 3, read, "keys a\nfields n\n  \ns: a tell")
        self.bad_text(1, 1, read, "\n")

    def test_point_33_the_first_line(self):
        for line, column in (("key a", 1), ("keys", 5), ("keys ", 6), ("keys 1", 6), ("keys a, b", 7), ("keys: a", 5),
                             ("keys keys", 6), ("keys a fields", 8), ("keysa", 1), ("a keys", 1),
                             ("keys abcdefghijklm", 6), ("keys A", 6)):
            with self.subTest(line=line):
                self.bad_text(1, column, read, line + "\nfields n")
                self.bad_text(1, column, read, line)
                self.bad_text(1, column, read, line + "\n?\n?")

    def test_point_33_the_second_line(self):
        for line, column in (("field n", 1), ("fields", 7), ("fields  ", 9), ("fields -1", 8), ("fields n; m", 9),
                             ("keys n", 1), ("fields n fields", 10), ("fields add", 8), ("s: a tell", 1)):
            with self.subTest(line=line):
                self.bad_text(2, column, read, "keys a\n" + line)
                self.bad_text(2, column, read, "keys a\n" + line + "\n?")

    def test_point_33_the_further_lines(self):
        head = "keys a\nfields n\n"
        self.bad_text(3, 5, read, head + "s: a")
        self.bad_text(3, 6, read, head + "s: a jump\nt: a")
        self.bad_text(4, 10, read, head + "s: a tell\nt: a tell?\nu")
        self.bad_text(5, 1, read, head + "s: a tell\nt: a tell\nkeys a")

    def test_point_33_the_first_bad_line_counts_not_the_first_strange_character(self):
        self.bad_text(2, 7, read, "keys a\nfields\ns: a tell ?")
        self.bad_text(1, 5, read, "keys\nfields ?")

    def test_points_8_and_33_every_bad_text_comes_before_what_is_built(self):
        nine = " and ".join(["n < 5"] * 9)
        four = "add k 1, add l 1, add m 1, add n 1"
        for bad in ("s: a tell, a tell", f"s: a change; when {nine}; add n 1", f"s: a change; {four}", "s: z tell",
                    "s: a change"):
            with self.subTest(bad=bad):
                self.bad_text(4, 6, read, f"keys a\nfields n\n{bad}\nt: a a")
        self.bad_text(3, 2, read, "keys a a\nfields n n\ns")
        self.bad_text(2, 7, read, "keys a b c d e\nfields")

    def test_point_33_all_shapes_are_built_before_the_book(self):
        nine = " and ".join(["n < 5"] * 9)
        self.fails(BadShape, {"name": "t"}, read, "keys a a\nfields n\ns: z tell\nt: a tell, a tell\nu: a change")
        self.fails(TooLarge, {"most": 8}, read, f"keys a a\nfields n\ns: a change; when {nine}; add n 1\nt: a change")
        self.fails(TooLarge, {"most": 3}, read,
                   "keys a\nfields n a\ns: z tell\ns: a change; add a 1, add b 1, add c 1, add d 1")
        self.fails(BadShape, {"name": "s"}, read, f"keys a\nfields n\ns: a change\nt: a change; when {nine}; add n 1")

    def test_points_29_and_33_the_errors_of_the_book(self):
        self.fails(BadBook, {}, read, "keys a a\nfields n\ns: z tell")
        self.fails(BadBook, {}, read, "keys a\nfields a")
        self.fails(BadBook, {}, read, "keys a b c d e\nfields n")
        self.fails(BadBook, {}, read, "keys a\nfields k l m n")
        self.fails(UnknownKey, {"name": "z"}, read, "keys a\nfields n\ns: a tell\nt: a tell, z tell")
        self.fails(UnknownField, {"name": "z"}, read, "keys a\nfields n\nt: a change; when z < 1; add y 1")
        seven = "\n".join(f"{name}: a tell" for name in "bcdefgh")
        self.fails(TooLarge, {"most": 6}, read, "keys a\nfields n\n" + seven)

    def test_points_29_and_33_a_shape_of_the_same_name_replaces(self):
        book = read("keys a\nfields n\ns: a tell\nt: a tell\ns: a refuse")
        self.assertEqual(book.text(), "keys a\nfields n\ns: a refuse\nt: a tell")

    def test_points_8_and_33_bad_text_is_exact(self):
        with self.assertRaises(BadText) as caught:
            read(EXAMPLE + ",")
        lines = EXAMPLE.split("\n")
        self.assertEqual((caught.exception.line, caught.exception.column), (4, len(lines[3]) + 2))
