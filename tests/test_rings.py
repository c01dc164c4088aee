"""The orders of the keys that a discipline obeys: point 77."""

import inspect
import itertools
import random

from elseput.books import Book
from elseput.disciplines import Discipline
from elseput.finding import standings
from elseput.orders import KeyOrder
from elseput.plans import Plan
from elseput.rings import obeyed_orders
from tests.helpers import Case, discipline, drawn_book, drawn_discipline


def orders(found):
    return ["".join(order.names) for order in obeyed_orders(found)]


class Orders(Case):
    def test_point_77_a_book_without_shapes_obeys_all_orders(self):
        self.assertEqual(orders(Discipline(Book(["b", "a"], ["n"]))), ["ba", "ab"])
        self.assertEqual(orders(Discipline(Book(["a"], ["n"]))), ["a"])
        self.assertEqual(len(orders(Discipline(Book("abcd", "n")))), 24)

    def test_point_77_in_the_order_of_every_order(self):
        found = discipline("keys c a b\nfields n\ns: b tell, a tell")
        self.assertEqual(orders(found), ["cba", "bca", "bac"])
        self.assertTrue(all(type(order) is KeyOrder for order in obeyed_orders(found)))

    def test_point_77_the_takes_count_and_not_the_looks(self):
        text = "keys a b\nfields n\ns: b tell, a tell"
        for line, expected in (
            ("take b, look b, take a, look a", ["ba"]), ("take a, take b, look b, look a", ["ab"]),
            ("take b, free b, take a, look b, look a", ["ab", "ba"]), ("look b, look a", ["ab", "ba"]),
            ("take b, look b, look a", ["ab", "ba"]), ("look b, look a, take a, take b", ["ab"]),
            ("take b, take a, free b, look b, look a", ["ba"]),
        ):
            with self.subTest(line=line):
                self.assertEqual(orders(discipline(text, s=line)), expected)

    def test_point_77_all_plans_have_to_obey(self):
        text = "keys a b c\nfields n\ns: a tell, b tell\nt: b tell, c tell\nu: {}"
        self.assertEqual(orders(discipline(text.format("a tell, c tell"))), ["abc"])
        self.assertEqual(orders(discipline(text.format("c tell"))), ["abc"])
        self.assertEqual(orders(discipline(text.format("c tell, a tell"))), [])
        self.assertEqual(orders(discipline(text.format("c tell, a tell"), u="take a, take c, look c, look a")), ["abc"])

    def test_point_77_several_keys_of_one_plan(self):
        found = discipline("keys a b c d\nfields n\ns: d tell, a tell, c tell")
        self.assertEqual(orders(found), ["bdac", "dabc", "dacb", "dbac"])

    def test_point_77_is_a_generator_of_new_orders(self):
        self.assertTrue(inspect.isgeneratorfunction(obeyed_orders))
        found = Discipline(Book(["a"], ["n"]))
        for order in obeyed_orders(found):
            order += "b"
        self.assertEqual(orders(found), ["a"])

    def test_point_77_drawn_disciplines(self):
        rng = random.Random(77)
        counts = {}
        for _ in range(150):
            found = drawn_discipline(rng, drawn_book(rng))
            expected = [names for names in itertools.permutations(found.book.key_names)
                        if all(names.index(first) < names.index(second) for _, plan in found
                               for first, second in plan.pairs())]
            self.assertEqual(orders(found), ["".join(names) for names in expected])
            stuck = [standing for standing in standings(found) if standing.kind == "stuck"]
            self.assertIs(expected == [], stuck != [])
            counts[len(expected)] = True
        self.assertTrue({0, 1, 2, 24} <= set(counts))

    def test_point_77_full_books_whose_plans_cover_all_keys(self):
        rng = random.Random(770)
        for _ in range(100):
            keys = rng.randint(2, 4)
            lines = [f"keys {' '.join('abcd'[:keys])}", "fields n"]
            for name in "uvw"[:rng.randint(1, 3)]:
                arms = ", ".join(f"{key} tell" for key in rng.sample("abcd"[:keys], keys))
                lines.append(f"{name}: {arms}")
            found = Discipline(Book.read("\n".join(lines)))
            self.assertTrue(found.book.full)
            if rng.random() < 0.5:
                name = rng.choice([name for name, _ in found])
                looks = found.book[name].carried
                found[name] = Plan([("take", key) for key in sorted(looks)] + [("look", key) for key in looks])
            pairs = {pair for _, plan in found for pair in plan.pairs()}
            opposite = any((second, first) in pairs for first, second in pairs)
            self.assertIs(orders(found) == [], opposite)
