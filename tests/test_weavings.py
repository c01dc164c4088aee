"""Weavings: points 7, 8 and 61 to 63."""

from elseput.errors import BadNumber, BadTurn
from elseput.weavings import Weaving, interleavings
from tests.helpers import BOUND, Case

read = Weaving.read


class Making(Case):
    def test_point_61_turns(self):
        for turns in ([], [0], [2, 0, 2, 11], (1, 1)):
            weaving = Weaving(turns)
            self.assertEqual(weaving.turns, tuple(turns))
            self.assertIs(type(weaving.turns), tuple)
            self.assertEqual((len(weaving), list(weaving)), (len(turns), list(turns)))

    def test_point_61_a_number_below_0(self):
        for turns, bad in (([-1], -1), ([0, -2], -2), ([3, -5, -1], -5), ([-1, -2], -1), ([0, 1, -BOUND, 2], -BOUND)):
            with self.subTest(turns=turns):
                self.fails(BadTurn, {"writer": bad}, Weaving, turns)

    def test_points_3_and_61_the_turns_are_copied(self):
        turns = [0, 1]
        weaving = Weaving(turns)
        turns.append(2)
        list(weaving).append(3)
        self.assertEqual(weaving.turns, (0, 1))

    def test_point_61_without(self):
        weaving = Weaving([0, 1, 0, 2, 10, 1])
        for writer, left in ((0, (1, 2, 10, 1)), (1, (0, 0, 2, 10)), (10, (0, 1, 0, 2, 1)), (3, weaving.turns),
                             (-1, weaving.turns)):
            found = weaving.without(writer)
            self.assertEqual(found.turns, left)
            self.assertIs(type(found), Weaving)
        self.assertEqual(weaving.turns, (0, 1, 0, 2, 10, 1))
        self.assertEqual(Weaving([1, 1]).without(1).turns, ())


class Joining(Case):
    def setUp(self):
        self.one, self.two = Weaving([0, 1]), Weaving([2])

    def test_point_61_sum(self):
        found = self.one + self.two
        self.assertEqual(found.turns, (0, 1, 2))
        self.assertEqual((self.two + self.one).turns, (2, 0, 1))
        self.assertEqual((self.one + Weaving([])).turns, (0, 1))
        self.assertEqual((Weaving([]) + Weaving([])).turns, ())
        self.assertIs(type(found), Weaving)
        self.assertEqual((self.one.turns, self.two.turns), ((0, 1), (2,)))

    def test_point_61_adding_to_the_weaving_itself(self):
        same = self.one
        self.one += self.two
        self.assertIs(self.one, same)
        self.assertEqual((same.turns, self.two.turns), ((0, 1, 2), (2,)))
        self.assertEqual((len(same), list(same), same.text()), (3, [0, 1, 2], "0 1 2"))
        self.assertTrue(same == Weaving([0, 1, 2]))

    def test_point_61_adding_a_weaving_to_itself(self):
        self.one += self.one
        self.assertEqual(self.one.turns, (0, 1, 0, 1))

    def test_point_61_a_sum_and_its_parts_are_apart(self):
        found = self.one + self.two
        times = self.one * 1
        self.one += self.two
        found += self.two
        self.assertEqual((self.one.turns, found.turns), ((0, 1, 2), (0, 1, 2, 2)))
        self.assertEqual((times.turns, self.two.turns), ((0, 1), (2,)))

    def test_point_61_times(self):
        for times, turns in ((0, ()), (1, (0, 1)), (2, (0, 1, 0, 1)), (3, (0, 1) * 3), (1000, (0, 1) * 1000)):
            self.assertEqual((self.one * times).turns, turns)
            self.assertEqual((times * self.one).turns, turns)
            self.assertIs(type(times * self.one), Weaving)
        self.assertEqual((Weaving([]) * 5).turns, ())
        self.assertEqual(self.one.turns, (0, 1))

    def test_point_61_bad_times(self):
        for times in (-1, 1001, -5, BOUND, -BOUND):
            for weaving in (self.one, Weaving([])):
                self.fails(BadNumber, {"value": times}, lambda: weaving * times)
                self.fails(BadNumber, {"value": times}, lambda: times * weaving)


class Comparing(Case):
    ASCENDING = (
        (), (0,), (1,), (2,), (10,), (0, 0), (0, 1), (0, 10), (1, 0), (0, 0, 0), (0, 0, 1), (0, 1, 0), (9, 0, 0),
    )

    def test_point_61_equal(self):
        for first in self.ASCENDING:
            for second in self.ASCENDING:
                self.assertIs(Weaving(first) == Weaving(list(second)), first == second)
                self.assertIs(Weaving(first) != Weaving(second), first != second)

    def test_point_61_less(self):
        for at, first in enumerate(self.ASCENDING):
            for other, second in enumerate(self.ASCENDING):
                with self.subTest(first=first, second=second):
                    self.assertIs(Weaving(first) < Weaving(second), at < other)
                    self.assertIs(Weaving(first) <= Weaving(second), at <= other)

    def test_point_61_the_least(self):
        weavings = [Weaving(turns) for turns in reversed(self.ASCENDING)]
        self.assertEqual(min(weavings).turns, ())
        self.assertEqual([weaving.turns for weaving in sorted(weavings)], list(self.ASCENDING))

    def test_point_61_comparing_what_has_been_added_to(self):
        grown, other = Weaving([5]), Weaving([0, 1])
        self.assertTrue(grown < other)
        grown += Weaving([0])
        self.assertTrue(other < grown and other <= grown)
        self.assertFalse(grown < other or grown <= other or grown == other)
        grown = Weaving([0])
        grown += Weaving([1])
        self.assertTrue(grown == other and grown <= other and other <= grown)
        self.assertFalse(grown < other or other < grown or grown != other)
        grown += grown
        self.assertTrue(grown == Weaving([0, 1, 0, 1]) and Weaving([9, 9, 9]) < grown < Weaving([0, 1, 0, 2]))
        weavings = [grown, Weaving([3, 0, 0, 0, 0]), other, Weaving([])]
        self.assertEqual([len(weaving) for weaving in sorted(weavings)], [0, 2, 4, 5])
        self.assertEqual((min(weavings).turns, max(weavings).turns), ((), (3, 0, 0, 0, 0)))

    def test_point_61_what_was_made_of_a_weaving_compares_by_its_own_turns(self):
        one = Weaving([1, 0])
        longer, repeated, less = one + one, one * 2, one.without(1)
        one += Weaving([7, 7, 7])
        self.assertTrue(longer == repeated and longer < one and less < longer and less == Weaving([0]))

    def test_point_61_comparing_changes_nothing(self):
        one, two = Weaving([0]), Weaving([0, 1])
        self.assertTrue(one < two and one <= two and not one == two)
        self.assertEqual((one.turns, two.turns), ((0,), (0, 1)))


class Texts(Case):
    def test_point_62_texts(self):
        for turns, text in (([], ""), ([0], "0"), ([0, 1, 10], "0 1 10"), ([BOUND], str(BOUND))):
            self.assertEqual(Weaving(turns).text(), text)
            self.assertEqual(read(text).turns, tuple(turns))
            self.assertIs(type(read(text)), Weaving)

    def test_point_62_spaces(self):
        self.assertEqual(read("   ").turns, ())
        self.assertEqual(read("  3   0 12 ").turns, (3, 0, 12))

    def test_points_7_and_62_bad_texts(self):
        for line, column in (
            ("-1", 1), ("0 -1", 3), ("0-1", 2), ("-0", 1), ("1 -0 2", 3), ("00", 1), ("01", 1), ("1 007", 3), ("a", 1),
            ("0, 1", 2), ("1 2 x", 5), ("(1)", 1), ("1 < 2", 3), (f"1 {BOUND + 1}", 3), (f"-{BOUND}", 1), ("1" * 60, 1),
        ):
            self.bad_column(read, line, column)

    def test_points_7_and_62_characters_that_belong_to_no_token_come_first(self):
        for line, column in (("-1 ?", 4), ("a 1 -", 5), ("0 1.", 4), ("1\n2", 2), ("- 1", 1)):
            self.bad_column(read, line, column)


class Interleavings(Case):
    def found(self, counts):
        return [weaving.turns for weaving in interleavings(counts)]

    def test_point_63_no_writers_and_no_turns(self):
        for counts in ([], [0], [0, 0, 0, 0]):
            self.assertEqual(self.found(counts), [()])

    def test_point_63_one_writer(self):
        self.assertEqual(self.found([3]), [(0, 0, 0)])
        self.assertEqual(self.found([0, 0, 2]), [(2, 2)])

    def test_point_63_several_writers(self):
        self.assertEqual(self.found([1, 1]), [(0, 1), (1, 0)])
        self.assertEqual(self.found([2, 1]), [(0, 0, 1), (0, 1, 0), (1, 0, 0)])
        self.assertEqual(self.found([1, 0, 1, 1]), [(0, 2, 3), (0, 3, 2), (2, 0, 3), (2, 3, 0), (3, 0, 2), (3, 2, 0)])

    def test_point_63_each_once_and_ascending(self):
        for counts, many in (([4, 4], 70), ([2, 2, 2, 2], 2520), ([3, 1, 0, 3], 140), ([8], 1), ([1, 3, 2, 1], 420)):
            weavings = list(interleavings(counts))
            self.assertEqual(len(weavings), many)
            self.assertTrue(all(weavings[at] < weavings[at + 1] for at in range(many - 1)))
            self.assertTrue(all(type(weaving) is Weaving for weaving in weavings))
            self.assertTrue(all([weaving.turns.count(w) for w in range(len(counts))] == counts for weaving in weavings))

    def test_points_3_and_63_the_counts_stay_as_they_were(self):
        counts = [2, 1]
        self.found(counts)
        self.assertEqual(counts, [2, 1])
