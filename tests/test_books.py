"""Books: points 29 to 32."""

from elseput.books import Book, merged
from elseput.changes import Change
from elseput.conditions import Condition
from elseput.errors import BadBook, BadName, TooLarge, UnknownField, UnknownKey, UnknownShape
from elseput.shapes import Shape
from tests.helpers import BAD_NAMES, Case


def shape(line):
    return Shape.read(line)


def tells(*names):
    """Shapes of these names that tell at the key a."""
    return [shape(f"{name}: a tell") for name in names]


def names_of(book):
    return [one.name for one in book]


def put(book, name, one):
    book[name] = one


class Making(Case):
    def test_point_29_the_attributes(self):
        book = Book(["b", "a"], ["n", "m"], *tells("one", "two"))
        self.assertEqual((book.key_names, book.field_names), (("b", "a"), ("n", "m")))
        self.assertIs(type(book.key_names), tuple)
        self.assertIs(type(book.field_names), tuple)
        self.assertEqual(names_of(book), ["one", "two"])
        self.assertEqual(len(Book(("a",), ("n",))), 0)

    def test_points_3_and_29_the_names_are_copied(self):
        keys, fields = ["a"], ["n"]
        book = Book(keys, fields)
        keys.append("b")
        fields[0] = "m"
        self.assertEqual((book.key_names, book.field_names), (("a",), ("n",)))
        self.assertEqual((keys, fields), (["a", "b"], ["m"]))

    def test_point_29_the_names_are_checked_first(self):
        for name in BAD_NAMES:
            with self.subTest(name=name):
                self.fails(BadName, {"name": name}, Book, ["a", name, "B"], ["n"])
                self.fails(BadName, {"name": name}, Book, ["a"], ["n", name, "M"])
                self.fails(BadName, {"name": name}, Book, [name], ["M"])

    def test_point_29_bad_name_comes_before_bad_book(self):
        self.fails(BadName, {"name": "E"}, Book, ["a", "b", "c", "d", "E"], ["n"])
        self.fails(BadName, {"name": "N"}, Book, [], ["N"])
        self.fails(BadName, {"name": "N"}, Book, ["a", "a"], ["N"])

    def test_point_29_the_number_of_keys_and_fields(self):
        for keys in range(6):
            for fields in range(5):
                given = (list("abcde")[:keys], list("klmn")[:fields])
                with self.subTest(given=given):
                    if 1 <= keys <= 4 and 1 <= fields <= 3:
                        self.assertEqual(Book(*given).key_names, tuple(given[0]))
                    else:
                        self.fails(BadBook, {}, Book, *given)

    def test_point_29_a_name_that_stands_twice(self):
        for keys, fields in ((["a", "a"], ["n"]), (["a"], ["n", "n"]), (["a", "n"], ["n"]), (["a", "b"], ["m", "a"])):
            with self.subTest(keys=keys, fields=fields):
                self.fails(BadBook, {}, Book, keys, fields)

    def test_point_29_bad_book_comes_before_the_shapes(self):
        self.fails(BadBook, {}, Book, ["a", "a"], ["n"], *tells("one"), shape("two: z tell"))
        self.fails(BadBook, {}, Book, ["a"], [], shape("two: z tell"))

    def test_point_29_the_shapes_are_added_in_order(self):
        self.fails(UnknownKey, {"name": "y"}, Book, ["a"], ["n"], *tells("one"), shape("two: y tell"),
                   shape("two: z tell"))
        self.assertEqual(len(Book(["a"], ["n"], *tells(*"bcdefg"))), 6)
        self.fails(TooLarge, {"most": 6}, Book, ["a"], ["n"], *tells(*"bcdefgh"))
        self.fails(TooLarge, {"most": 6}, Book, ["a"], ["n"], *tells(*"bcdefgh"), shape("i: z tell"))
        book = Book(["a"], ["n"], *tells("one", "two"), shape("one: a refuse"))
        self.assertEqual([one.text() for one in book], ["one: a refuse", "two: a tell"])
        self.assertEqual(len(Book(["a"], ["n"], *tells(*"bcdefgbcdefg"))), 6)

    def test_point_29_a_shape_may_have_the_name_of_a_key_or_a_field(self):
        self.assertEqual(names_of(Book(["a"], ["n"], *tells("a", "n"))), ["a", "n"])

    def test_point_29_most_is_a_value_of_the_class(self):
        self.assertEqual((Book.MOST, Book(["a"], ["n"]).MOST), (6, 6))


class Adding(Case):
    def setUp(self):
        self.book = Book(["a", "b"], ["n", "m"], *tells("one", "two"))

    def fails_unchanged(self, kind, fields, name, one):
        text = self.book.text()
        self.fails(kind, fields, put, self.book, name, one)
        self.assertEqual(self.book.text(), text)

    def test_point_30_a_new_shape_is_the_last(self):
        self.book["abc"] = shape("abc: b tell")
        self.assertEqual(names_of(self.book), ["one", "two", "abc"])

    def test_point_30_a_replaced_shape_keeps_its_place(self):
        self.book["one"] = shape("one: b tell, a refuse")
        self.assertEqual([one.text() for one in self.book], ["one: b tell, a refuse", "two: a tell"])
        self.assertEqual(len(self.book), 2)

    def test_point_30_another_name(self):
        self.fails_unchanged(BadBook, {}, "three", tells("one")[0])
        self.fails_unchanged(BadBook, {}, "one", shape("two: z tell"))

    def test_point_30_an_unknown_key(self):
        self.fails_unchanged(UnknownKey, {"name": "z"}, "s", shape("s: a tell, z tell, y tell"))
        self.fails_unchanged(UnknownKey, {"name": "n"}, "s", shape("s: n tell"))
        self.fails_unchanged(UnknownKey, {"name": "z"}, "s", shape("s: z change; when q < 1; add q 1"))

    def test_point_30_an_unknown_field(self):
        for line, name in (
            ("s: a change; when z < 1 and y < 1; add q 1", "y"), ("s: a change; when n < 1 or z < 1; add q 1", "z"),
            ("s: a change; when n < 1; add m 1, set z 1, add y 1", "z"), ("s: a change; add a 1", "a"),
            ("s: a change; set k 1", "k"),
        ):
            with self.subTest(line=line):
                self.fails_unchanged(UnknownField, {"name": name}, "s", shape(line))

    def test_point_30_six_shapes_and_seven(self):
        for name in ("c", "d", "e", "f"):
            self.book[name] = tells(name)[0]
        self.assertEqual(len(self.book), 6)
        self.fails_unchanged(TooLarge, {"most": 6}, "g", tells("g")[0])
        self.book["d"] = shape("d: b refuse")
        self.assertEqual(names_of(self.book), ["one", "two", "c", "d", "e", "f"])
        self.assertEqual(self.book["d"].text(), "d: b refuse")

    def test_point_30_the_order_of_the_errors(self):
        for name in ("c", "d", "e", "f"):
            self.book[name] = tells(name)[0]
        self.fails_unchanged(BadBook, {}, "h", shape("g: z change; add q 1"))
        self.fails_unchanged(UnknownKey, {"name": "z"}, "g", shape("g: z change; add q 1"))
        self.fails_unchanged(UnknownField, {"name": "q"}, "g", shape("g: a change; add q 1"))
        self.fails_unchanged(TooLarge, {"most": 6}, "g", shape("g: a change; add n 1"))
        self.fails_unchanged(UnknownKey, {"name": "z"}, "c", shape("c: z tell"))
        self.fails_unchanged(UnknownField, {"name": "q"}, "c", shape("c: a change; when q < 1; add n 1"))

    def test_point_31_asking(self):
        self.assertEqual(self.book["two"].text(), "two: a tell")
        for name in ("three", "a", "n", ""):
            self.fails(UnknownShape, {"name": name}, lambda: self.book[name])
            self.assertIs(name in self.book, False)
        self.assertIs("one" in self.book, True)
        self.assertEqual(len(self.book), 2)
        self.assertEqual([type(one) for one in self.book], [Shape, Shape])

    def test_point_31_full(self):
        self.assertIs(Book(["a", "b"], ["n"]).full, True)
        self.assertIs(self.book.full, False)
        book = Book(["a", "b"], ["n"], shape("one: b tell, a refuse"), shape("two: a tell, b tell"))
        self.assertIs(book.full, True)
        book["three"] = shape("three: b tell")
        self.assertIs(book.full, False)
        book["three"] = shape("three: a refuse, b tell")
        self.assertIs(book.full, True)
        self.assertIs(Book(["a"], ["n"], *tells("one")).full, True)
        self.assertIs(Book(["a", "b"], ["n"], shape("one: a tell, b tell"), *tells("two")).full, False)


class Merging(Case):
    def test_point_32_the_shapes_of_all_books(self):
        books = [Book(["a", "b"], ["n"], *tells(*names)) for names in ("xy", "", "z", "uv")]
        whole = merged(*books)
        self.assertEqual(whole.text(), Book(["a", "b"], ["n"], *tells(*"xyzuv")).text())

    def test_point_32_later_shapes_take_the_place_of_earlier_ones(self):
        first = Book(["a", "b"], ["n"], *tells("x", "y", "z"))
        second = Book(["a", "b"], ["n"], shape("y: b tell"), shape("w: a tell"), shape("x: a refuse"))
        third = Book(["a", "b"], ["n"], shape("y: b refuse"))
        self.assertEqual([one.text() for one in merged(first, second, third)],
                         ["x: a refuse", "y: b refuse", "z: a tell", "w: a tell"])

    def test_points_3_and_32_the_books_are_unchanged_and_nothing_is_shared(self):
        first, second = Book(["a"], ["n"], *tells("x")), Book(["a"], ["n"], *tells("y"))
        whole = merged(first, second)
        whole["z"] = tells("z")[0]
        whole["x"] = shape("x: a refuse")
        self.assertEqual((names_of(first), names_of(second)), (["x"], ["y"]))
        self.assertEqual(first["x"].text(), "x: a tell")
        alone = merged(first)
        alone["z"] = tells("z")[0]
        self.assertEqual(len(first), 1)
        self.assertEqual(names_of(merged(first, first)), ["x"])

    def test_point_32_other_keys_or_fields_come_before_everything(self):
        first = Book(["a", "b"], ["n", "m"], *tells(*"pqrs"))
        large = Book(["a", "b"], ["n", "m"], *tells(*"tuvwxy"))
        self.fails(TooLarge, {"most": 6}, merged, first, large)
        for other in (Book(["b", "a"], ["n", "m"]), Book(["a"], ["n", "m"]), Book(["a", "b"], ["m", "n"]),
                      Book(["a", "b"], ["n"]), Book(["a", "b", "c"], ["n", "m"]), Book(["a", "c"], ["n", "m"]),
                      Book(["a", "b"], ["n", "k"])):
            with self.subTest(other=other.text()):
                self.fails(BadBook, {}, merged, first, other)
                self.fails(BadBook, {}, merged, other, first)
                self.fails(BadBook, {}, merged, first, large, other)

    def test_point_32_too_many_shapes(self):
        first = Book(["a"], ["n"], *tells(*"bcde"))
        self.assertEqual(len(merged(first, Book(["a"], ["n"], *tells(*"edcf")), Book(["a"], ["n"], *tells("g")))), 6)
        self.fails(TooLarge, {"most": 6}, merged, first, Book(["a"], ["n"], *tells(*"fgh")))

    def test_points_30_and_32_parts_made_by_hand(self):
        one = Shape("s", [("a", "change")], Condition.compare("n", "<", 1), Change.adding("n", 1))
        self.assertEqual(merged(Book(["a"], ["n"], one))["s"].text(), "s: a change; when n < 1; add n 1")
