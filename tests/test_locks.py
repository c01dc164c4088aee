"""Locks: points 52 and 53."""

from elseput.locks import LockTable
from tests.helpers import Case

A, B, C = ("key", "a", 1), ("key", "b", 1), ("row", 0)


class Locks(Case):
    def setUp(self):
        self.locks = LockTable()

    def holds(self, place):
        return self.locks.holders(place)

    def test_point_52_a_place_that_nobody_holds(self):
        for mode in ("share", "hold"):
            self.assertEqual(self.locks.blockers(A, 0, mode), [])
        self.assertEqual((self.holds(A), self.locks.held(0)), ([], []))

    def test_point_52_taking(self):
        self.assertIs(self.locks.take(A, 3, "hold"), True)
        self.assertIs(self.locks.take(B, 3, "share"), True)
        self.assertEqual((self.holds(A), self.holds(B)), ([(3, "hold")], [(3, "share")]))
        self.assertEqual(self.locks.held(3), [A, B])
        self.assertEqual((self.holds(C), self.locks.held(2)), ([], []))

    def test_point_52_share_beside_share(self):
        for writer in (5, 2, 9):
            self.assertEqual(self.locks.blockers(A, writer, "share"), [])
            self.assertIs(self.locks.take(A, writer, "share"), True)
        self.assertEqual(self.holds(A), [(2, "share"), (5, "share"), (9, "share")])

    def test_point_52_hold_against_share(self):
        self.locks.take(A, 5, "share")
        self.locks.take(A, 2, "share")
        self.assertEqual(self.locks.blockers(A, 3, "hold"), [2, 5])
        self.assertIs(self.locks.take(A, 3, "hold"), False)
        self.assertEqual((self.holds(A), self.locks.held(3)), ([(2, "share"), (5, "share")], []))

    def test_point_52_share_against_hold(self):
        self.locks.take(A, 5, "hold")
        self.assertEqual((self.locks.blockers(A, 3, "share"), self.locks.blockers(A, 3, "hold")), ([5], [5]))
        self.assertIs(self.locks.take(A, 3, "share"), False)
        self.assertIs(self.locks.take(A, 3, "hold"), False)
        self.assertEqual((self.holds(A), self.locks.held(3)), ([(5, "hold")], []))

    def test_point_52_many_blockers_are_ascending(self):
        for writer in (10, 9, 100, 1, 11):
            self.locks.take(A, writer, "share")
        self.assertEqual(self.locks.blockers(A, 0, "hold"), [1, 9, 10, 11, 100])
        self.assertEqual(self.locks.blockers(A, 0, "share"), [])
        self.assertEqual(self.locks.blockers(A, 10, "hold"), [1, 9, 11, 100])
        self.assertEqual([writer for writer, _ in self.holds(A)], [1, 9, 10, 11, 100])

    def test_point_52_a_writer_does_not_block_itself(self):
        for first in ("share", "hold"):
            for second in ("share", "hold"):
                locks = LockTable()
                locks.take(A, 1, first)
                self.assertEqual(locks.blockers(A, 1, second), [])
                self.assertIs(locks.take(A, 1, second), True)
                self.assertEqual(locks.held(1), [A])
                both = [(1, "hold" if "hold" in (first, second) else "share")]
                self.assertEqual(locks.holders(A), both)

    def test_point_52_a_share_becomes_a_hold_only_without_other_sharers(self):
        self.locks.take(A, 1, "share")
        self.locks.take(A, 2, "share")
        self.assertIs(self.locks.take(A, 1, "hold"), False)
        self.assertEqual(self.holds(A), [(1, "share"), (2, "share")])
        self.locks.free(A, 2)
        self.assertIs(self.locks.take(A, 1, "hold"), True)
        self.assertEqual(self.holds(A), [(1, "hold")])
        self.assertIs(self.locks.take(A, 2, "share"), False)

    def test_point_52_a_hold_that_was_freed_is_forgotten(self):
        self.locks.take(A, 1, "hold")
        self.locks.free(A, 1)
        self.locks.take(A, 1, "share")
        self.assertEqual(self.holds(A), [(1, "share")])
        self.assertIs(self.locks.take(A, 2, "share"), True)

    def test_point_52_places_are_apart(self):
        self.locks.take(("key", "a", 1), 1, "hold")
        for place in (("key", "a", 2), ("key", "b", 1), ("row", 1), ("a", 1), ()):
            self.assertIs(self.locks.take(place, 2, "hold"), True)

    def test_point_53_free(self):
        self.locks.take(A, 1, "share")
        self.locks.take(A, 2, "share")
        self.locks.take(B, 1, "hold")
        self.assertIs(self.locks.free(A, 1), True)
        self.assertEqual((self.holds(A), self.locks.held(1)), ([(2, "share")], [B]))
        self.assertIs(self.locks.free(A, 1), False)
        self.assertIs(self.locks.free(C, 1), False)
        self.assertIs(self.locks.free(B, 2), False)
        self.assertIs(self.locks.free(B, 7), False)
        self.assertEqual((self.holds(B), self.locks.held(2)), ([(1, "hold")], [A]))

    def test_point_53_free_all(self):
        for place in (A, B, C):
            self.locks.take(place, 1, "share")
            self.locks.take(place, 2, "share")
        self.assertEqual(self.locks.free_all(1), 3)
        self.assertEqual((self.locks.held(1), self.locks.held(2)), ([], [A, B, C]))
        self.assertEqual(self.locks.free_all(1), 0)
        self.assertEqual(self.locks.free_all(7), 0)
        self.assertEqual(self.holds(B), [(2, "share")])

    def test_point_53_free_all_but_some_places(self):
        for place in (A, B, C):
            self.locks.take(place, 1, "hold")
        self.assertEqual(self.locks.free_all(1, B), 2)
        self.assertEqual(self.locks.held(1), [B])
        self.assertEqual(self.locks.free_all(1, A), 1)
        self.assertEqual(self.locks.held(1), [])
        self.assertEqual(self.locks.free_all(1, A), 0)

    def test_point_53_free_all_with_several_places(self):
        for place in (A, B, C):
            self.locks.take(place, 1, "hold")
        self.assertEqual(self.locks.free_all(1, C, A, ("row", 5)), 1)
        self.assertEqual(self.locks.held(1), [A, C])
        self.assertEqual(self.holds(A), [(1, "hold")])
        self.assertEqual(self.locks.free_all(1, A, C), 0)

    def test_point_53_a_kept_place_that_another_writer_holds(self):
        self.locks.take(A, 2, "hold")
        self.locks.take(B, 1, "hold")
        self.assertEqual(self.locks.free_all(1, A), 1)
        self.assertEqual((self.holds(A), self.locks.held(1)), ([(2, "hold")], []))

    def test_point_53_held_in_the_order_of_the_takes(self):
        for place in (C, A, B):
            self.locks.take(place, 1, "share")
        self.assertEqual(self.locks.held(1), [C, A, B])
        self.locks.take(C, 1, "hold")
        self.locks.take(A, 1, "share")
        self.assertEqual(self.locks.held(1), [C, A, B])
        self.locks.free(C, 1)
        self.locks.take(C, 1, "share")
        self.assertEqual(self.locks.held(1), [A, B, C])

    def test_points_3_and_53_what_is_returned_is_new(self):
        self.locks.take(A, 1, "share")
        self.locks.take(A, 2, "share")
        for call in (
            lambda: self.locks.blockers(A, 3, "hold"), lambda: self.locks.holders(A), lambda: self.locks.holders(C),
            lambda: self.locks.held(1), lambda: self.locks.held(9),
        ):
            found = call()
            self.assertIs(type(found), list)
            found.append(77)
            self.assertEqual(call(), found[:-1])
        self.assertIs(type(self.locks.holders(A)[0]), tuple)

    def test_point_52_asking_changes_nothing(self):
        self.locks.blockers(A, 1, "hold")
        self.locks.take(A, 2, "hold")
        self.locks.take(A, 1, "hold")
        self.locks.free(A, 1)
        self.assertEqual((self.holds(A), self.locks.held(1), self.locks.held(2)), ([(2, "hold")], [], [A]))
