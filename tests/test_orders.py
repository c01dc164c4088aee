"""Orders of keys: points 41 to 43."""

from elseput.errors import BadName, BadOrder, UnknownKey
from elseput.orders import KeyOrder, every_order
from tests.helpers import BAD_NAMES, Case


class Making(Case):
    def test_point_41_names(self):
        for names in ([], ["a"], ["b", "a", "c"], list("gfedcba")):
            order = KeyOrder(names)
            self.assertEqual(order.names, tuple(names))
            self.assertEqual(len(order), len(names))
            self.assertEqual(list(order), names)
            self.assertEqual([order[name] for name in names], list(range(len(names))))
        self.assertEqual(KeyOrder(("a", "b")).names, ("a", "b"))

    def test_point_41_bad_names(self):
        for bad in BAD_NAMES:
            for names in ([bad], ["a", bad], [bad, "a", bad], ["a", "a", bad], ["a", bad, ""]):
                with self.subTest(names=names):
                    self.fails(BadName, {"name": bad}, KeyOrder, names)

    def test_point_41_a_name_twice(self):
        for names in (["a", "a"], ["a", "b", "a"], ["b", "a", "c", "a", "b"]):
            self.fails(BadOrder, {}, KeyOrder, names)

    def test_point_41_ranks_and_membership(self):
        order = KeyOrder(["b", "a", "c"])
        self.assertEqual((order["a"], order["b"], order["c"]), (1, 0, 2))
        for name in ("d", "", "keys", "ab"):
            self.fails(UnknownKey, {"name": name}, lambda: order[name])
            self.assertIs(name in order, False)
        self.assertIs("a" in order, True)
        self.fails(UnknownKey, {"name": "a"}, lambda: KeyOrder([])["a"])

    def test_points_3_and_41_the_names_are_copied(self):
        names = ["b", "a"]
        order = KeyOrder(names)
        names.append("c")
        self.assertEqual(order.names, ("b", "a"))
        list(order).append("d")
        self.assertEqual(len(order), 2)


class Changing(Case):
    def setUp(self):
        self.order = KeyOrder(["b", "a"])

    def test_point_42_sums(self):
        last, first = self.order + "c", "c" + self.order
        self.assertEqual((last.names, first.names), (("b", "a", "c"), ("c", "b", "a")))
        self.assertIs(type(last), KeyOrder)
        self.assertIs(type(first), KeyOrder)
        self.assertEqual((KeyOrder([]) + "a").names, ("a",))
        self.assertEqual(("a" + KeyOrder([])).names, ("a",))
        self.assertEqual(self.order.names, ("b", "a"))

    def test_point_42_errors_of_sums(self):
        for bad in BAD_NAMES:
            with self.subTest(bad=bad):
                self.fails(BadName, {"name": bad}, lambda: self.order + bad)
                self.fails(BadName, {"name": bad}, lambda: bad + self.order)
        for name in ("a", "b"):
            self.fails(BadOrder, {}, lambda: self.order + name)
            self.fails(BadOrder, {}, lambda: name + self.order)
        self.assertEqual(self.order.names, ("b", "a"))

    def test_point_42_adding_to_the_order_itself(self):
        order = same = self.order
        order += "c"
        order += "d"
        self.assertIs(order, same)
        self.assertEqual(same.names, ("b", "a", "c", "d"))
        self.assertEqual((same["d"], len(same), list(same)), (3, 4, ["b", "a", "c", "d"]))
        self.assertEqual(same(["d", "a"]), ["a", "d"])

    def test_point_42_errors_of_adding_to_the_order_itself(self):
        def add(name):
            order = self.order
            order += name

        for bad in BAD_NAMES:
            self.fails(BadName, {"name": bad}, add, bad)
        for name in ("a", "b"):
            self.fails(BadOrder, {}, add, name)
        self.assertEqual(self.order.names, ("b", "a"))

    def test_point_42_what_an_order_was_made_of_stays_as_it_was(self):
        longer, reverse = self.order + "c", ~self.order
        longer += "d"
        reverse += "e"
        self.assertEqual(self.order.names, ("b", "a"))
        self.order += "f"
        self.assertEqual((longer.names, reverse.names), (("b", "a", "c", "d"), ("a", "b", "e")))

    def test_point_42_difference(self):
        order = KeyOrder(["b", "a", "c"])
        self.assertEqual([(order - name).names for name in "abc"], [("b", "c"), ("a", "c"), ("b", "a")])
        self.assertIs(type(order - "a"), KeyOrder)
        self.assertEqual((KeyOrder(["a"]) - "a").names, ())
        self.assertEqual(order.names, ("b", "a", "c"))
        for name in ("d", "", "add"):
            self.fails(UnknownKey, {"name": name}, lambda: order - name)

    def test_point_42_reversed(self):
        self.assertEqual((~KeyOrder(["b", "a", "c"])).names, ("c", "a", "b"))
        self.assertEqual((~KeyOrder([])).names, ())
        self.assertIs(type(~self.order), KeyOrder)
        self.assertEqual(self.order.names, ("b", "a"))

    def test_point_42_sorting(self):
        order = KeyOrder(["b", "a", "c"])
        for names, expected in (([], []), (["c", "a", "b"], ["b", "a", "c"]), (["c", "b"], ["b", "c"]),
                                (["a", "c", "a", "b", "c"], ["b", "a", "a", "c", "c"]), (("a", "b"), ["b", "a"])):
            with self.subTest(names=names):
                found = order(names)
                self.assertEqual(found, expected)
                self.assertIs(type(found), list)
        self.assertEqual(KeyOrder([])([]), [])

    def test_point_42_sorting_unknown_names(self):
        order = KeyOrder(["b", "a"])
        for names, unknown in ((["z"], "z"), (["a", "z", "y"], "z"), (["y", "z"], "y"), (["b", "a", "", "z"], "")):
            self.fails(UnknownKey, {"name": unknown}, order, names)

    def test_points_3_and_42_sorting_changes_nothing(self):
        names = ["a", "b", "a"]
        found = self.order(names)
        self.assertEqual(names, ["a", "b", "a"])
        found.append("c")
        self.assertEqual(self.order(names), ["b", "a", "a"])
        self.assertEqual(self.order.names, ("b", "a"))


class Every(Case):
    def found(self, names):
        return ["".join(order.names) for order in every_order(names)]

    def test_point_43_all_arrangements(self):
        self.assertEqual(self.found([]), [""])
        self.assertEqual(self.found(["a"]), ["a"])
        self.assertEqual(self.found(["b", "a"]), ["ba", "ab"])
        self.assertEqual(self.found(("b", "c", "a")), ["bca", "bac", "cba", "cab", "abc", "acb"])

    def test_point_43_four_names(self):
        names = ["d", "a", "c", "b"]
        found = [tuple(names.index(name) for name in order) for order in every_order(names)]
        self.assertEqual(len(found), 24)
        self.assertEqual(found, sorted(set(found)))
        self.assertTrue(all(sorted(ranks) == [0, 1, 2, 3] for ranks in found))

    def test_point_43_the_orders_are_key_orders_of_their_own(self):
        orders = list(every_order(["a", "b"]))
        self.assertTrue(all(type(order) is KeyOrder for order in orders))
        orders[0] += "c"
        self.assertEqual(orders[1].names, ("b", "a"))
        self.assertEqual(self.found(["a", "b"]), ["ab", "ba"])

    def test_points_3_and_43_the_names_stay_as_they_were(self):
        names = ["b", "a"]
        list(every_order(names))
        self.assertEqual(names, ["b", "a"])
