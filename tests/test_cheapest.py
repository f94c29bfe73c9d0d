"""Points 27 to 30, with 1 and 31, for cheapest.py."""

import unittest

from bytegrove.bodies import Functions
from bytegrove.cheapest import cheapest, extra_price, offers
from bytegrove.errors import NoLayout, NotThere
from bytegrove.judge import judge, words_of
from bytegrove.kinds import Kinds
from bytegrove.layouts import Layout
from tests.reference import all_layouts, good_specs, least_cycle, spec_cost, specs_of_maker
from tests.samples import (last_functions, random_case, random_functions, random_table, seeded, tree_kinds,
                           wood_kinds)

WOOD = wood_kinds()
# Two makers of four tree parts each, whose names are not in the order of the table.
FOUR = Kinds([("K", "End", ()), ("K", "Late", (("c", "K", 1), ("a", "K", 2), ("d", "K", 4), ("b", "K", 8))),
              ("K", "Early", (("d", "K", 1), ("c", "K", 1), ("b", "K", 1), ("a", "K", 1)))])


def wood_functions(*nodes):
    """Return a table of functions f0, f1 .. with these bodies for Node."""
    return Functions(WOOD, [("f%d" % at, "Wood", "sum", {"Leaf": (("read", "n"),), "Node": node})
                            for at, node in enumerate(nodes)])


def four_functions(late, early=(), *more):
    """Return a table of functions f0, f1 .. which ask the parts of Late and Early in these orders."""
    pairs = [(late, early), *more]
    rows = []
    for at, parts in enumerate(pairs):
        bodies = [tuple(("call", "f%d" % at, part) for part in asked) for asked in parts]
        rows.append(("f%d" % at, "K", "max", {"End": (), "Late": bodies[0], "Early": bodies[1]}))
    return Functions(FOUR, rows)


def late_orders(*orders):
    """Return functions of which each asks the parts of Late in one order and all of Early."""
    return four_functions(orders[0], "abcd", *[(order, "abcd") for order in orders[1:]])


class CheapestTest(unittest.TestCase):
    def test_example_of_the_interface(self):
        layout = cheapest(last_functions(tree_kinds()), "last")
        self.assertIs(layout.__class__, Layout)
        self.assertEqual(list(layout), [("Leaf", ("n",)), ("Node", ("right", "left"))])
        self.assertEqual(layout.price, 0)

    def test_kinds_is_that_of_the_functions(self):
        kinds = tree_kinds()
        self.assertIs(cheapest(last_functions(kinds)).kinds, kinds)

    def test_no_starts(self):
        layout = cheapest(four_functions("ab", "dcba"))
        self.assertEqual(list(layout), [("End", ()), ("Late", ("a", "b", "c", "d")), ("Early", ("a", "b", "c", "d"))])
        kinds = Kinds([("K", "M", (("b", "byte"), ("a10", "byte"), ("a2", "byte"), ("B", "byte")))])
        functions = Functions(kinds, [("f", "K", "sum", {"M": (("read", "b"), ("read", "a2"))})])
        self.assertEqual(list(cheapest(functions)), [("M", ("B", "a10", "a2", "b"))])
        self.assertEqual(list(cheapest(functions, "f")), [("M", ("B", "a10", "b", "a2"))])

    def test_parts_are_measured(self):
        # f1 reads b and does not end where a part behind it has no length: so left is measured.
        functions = wood_functions((("call", "f1", "left"), ("read", "a")), (("read", "b"),))
        layout = cheapest(functions, "f0")
        self.assertEqual(list(layout)[1], ("Node", ("+left", "a", "b", "right")))
        self.assertEqual((layout.price, words_of(functions, layout)), (2, {"f0": "runs", "f1": "runs"}))
        self.assertEqual(list(cheapest(functions, "f1"))[1], ("Node", ("a", "b", "left", "right")))

    def test_length_behind_saves_a_dearer_one(self):
        # Either the asked part x is measured, or y, and then the call ends: the cheaper one is.
        for price, spec in ((5, ("+x", "n", "y")), (9, ("+y", "x", "n"))):
            kinds = Kinds([("K", "E", ()), ("K", "M", (("n", "byte"), ("x", "K", price), ("y", "K", 7)))])
            functions = Functions(kinds, [("f", "K", "sum", {"E": (), "M": (("call", "f", "x"), ("read", "n"))})])
            layout = cheapest(functions, "f")
            self.assertEqual((list(layout)[1], layout.price), (("M", spec), min(price, 7)))

    def test_equal_prices_are_decided_by_the_specs(self):
        kinds = Kinds([("K", "E", ()), ("K", "M", (("y", "K", 5), ("x", "K", 5)))])
        functions = Functions(kinds, [("f", "K", "sum", {"E": (), "M": (("call", "f", "x"),)}),
                                      ("g", "K", "sum", {"E": (), "M": (("call", "g", "y"),)})])
        layout = cheapest(functions, "f", "g")
        self.assertEqual((list(layout)[1], layout.price), (("M", ("+x", "y")), 5))
        self.assertEqual(list(cheapest(functions, "g"))[1], ("M", ("y", "x")))

    def test_specs_of_earlier_makers_go_first(self):
        # Either x is measured, or y, and then the call on x ends: both cost the same.
        outer = ("O", "Out", (("n", "byte"), ("x", "K", 5)))
        inner = [("K", "E", ()), ("K", "N", (("y", "K", 5),))]
        bodies = {"Out": (("call", "g", "x"), ("read", "n"))}
        rows = [("f", "O", "sum", bodies), ("g", "K", "sum", {"E": (), "N": ()})]
        self.assertEqual(list(cheapest(Functions(Kinds([outer] + inner), rows), "f")),
                         [("Out", ("+x", "n")), ("E", ()), ("N", ("y",))])
        self.assertEqual(list(cheapest(Functions(Kinds(inner + [outer]), rows), "f")),
                         [("E", ()), ("N", ("+y",)), ("Out", ("x", "n"))])

    def test_start_twice_and_in_any_order(self):
        functions = wood_functions((("call", "f1", "left"), ("read", "a")), (("read", "b"),),
                                   (("call", "f2", "right"),))
        expected = list(cheapest(functions, "f0", "f2"))
        for starts in (("f2", "f0"), ("f0", "f2", "f0"), ("f1", "f2", "f0")):
            self.assertEqual(list(cheapest(functions, *starts)), expected)

    def test_returned_layout_is_new(self):
        functions = last_functions(tree_kinds())
        layout = cheapest(functions, "last")
        layout["Node"] = ("+left", "right")
        self.assertEqual(list(cheapest(functions, "last"))[1], ("Node", ("right", "left")))

    def test_unknown_starts(self):
        functions = wood_functions((("read", "a"), ("read", "b")), (("read", "b"), ("read", "a")))
        for starts, name in ((("x",), "x"), (("f0", "f1", "y", "x"), "y"), (("", "f0"), ""), (("Wood",), "Wood")):
            for call in (cheapest, offers):
                with self.assertRaises(NotThere) as caught:
                    call(functions, *starts)
                self.assertEqual(caught.exception.name, name)

    def test_against_all_layouts(self):
        priced = 0
        for number in range(250):
            chance = seeded(number)
            kinds = random_table(chance, chance.randint(1, 2), chance.randint(2, 4))
            count = 1
            for maker in kinds.order:
                count *= len(specs_of_maker(kinds, maker))
            orders = {maker: chance.sample(kinds.parts(maker), len(kinds.parts(maker))) for maker in kinds.order}
            functions = random_functions(chance, kinds, chance.randint(1, 3), orders)
            starts = [name for name in functions.names if chance.random() < 0.6]
            if count > 800:
                continue
            right = [layout for layout in all_layouts(kinds)
                     if all(words_of(functions, layout)[start] != "stuck" for start in starts)]
            if not right:
                with self.assertRaises(NoLayout):
                    cheapest(functions, *starts)
                continue
            layout = cheapest(functions, *starts)
            self.assertEqual(list(layout), list(min(right)))
            priced += layout.price > 0
        self.assertGreater(priced, 10)


class NoLayoutTest(unittest.TestCase):
    def check(self, maker, cycle, functions, *starts):
        """Check what NoLayout tells."""
        for call in (cheapest, offers):
            with self.assertRaises(NoLayout) as caught:
                call(functions, *starts)
            self.assertEqual((caught.exception.maker, caught.exception.cycle), (maker, cycle))
        with self.assertRaises(NoLayout) as caught:
            extra_price(functions, *starts)
        self.assertEqual((caught.exception.maker, caught.exception.cycle), (maker, cycle))

    def test_two_parts(self):
        functions = wood_functions((("read", "b"), ("read", "a")), (("read", "a"), ("read", "b")))
        self.check("Node", ("a", "b"), functions, "f0", "f1")
        self.check("Node", ("a", "b"), functions, "f1", "f0")
        for name in ("f0", "f1"):
            self.assertEqual(cheapest(functions, name).price, 0)

    def test_byte_and_tree(self):
        functions = wood_functions((("read", "b"), ("call", "f1", "left")), (("call", "f0", "left"), ("read", "b")))
        self.check("Node", ("b", "left"), functions, "f0")
        self.check("Node", ("b", "left"), functions, "f1")

    def test_two_paths_of_one_body(self):
        branch = ("if", "a", 5, (("call", "f0", "right"), ("call", "f0", "left")),
                  (("call", "f0", "left"), ("read", "b"), ("call", "f0", "right")))
        self.check("Node", ("left", "right"), wood_functions((branch,)), "f0")

    def test_part_further_on(self):
        # No two steps that follow each other make a cycle.
        functions = late_orders("acb", "bda")
        self.check("Late", ("a", "b"), functions, "f0", "f1")

    def test_three_parts(self):
        self.check("Late", ("a", "b", "c"), late_orders("ab", "bc", "ca"), "f0", "f1", "f2")
        self.check("Late", ("a", "c", "b"), late_orders("ac", "ba", "cb"), "f0", "f1", "f2")
        self.check("Late", ("b", "d", "c"), late_orders("dc", "cb", "bd"), "f2", "f1", "f0")
        functions = late_orders("ab", "bc", "ca")
        for starts in (("f0", "f1"), ("f1", "f2"), ("f0", "f2")):
            layout = cheapest(functions, *starts)
            self.assertTrue(all(judge(functions, layout, start).right for start in starts))

    def test_four_parts(self):
        self.check("Late", ("a", "b", "c", "d"), late_orders("ab", "bc", "cd", "da"), "f0", "f1", "f2", "f3")
        self.check("Late", ("a", "d", "b", "c"), late_orders("ad", "db", "bc", "ca"), "f0", "f1", "f2", "f3")

    def test_shortest_goes_before_least(self):
        self.check("Late", ("c", "d"), late_orders("ab", "bc", "cad", "dc"), "f0", "f1", "f2", "f3")

    def test_least_of_several(self):
        self.check("Late", ("a", "d"), late_orders("abcd", "da", "cb"), "f0", "f1", "f2")
        self.check("Late", ("b", "c"), late_orders("abcd", "dc", "cb"), "f0", "f1", "f2")

    def test_first_of_several_makers(self):
        # Late stands in front of Early in the table, whatever the names and the starts are.
        functions = four_functions("ab", "cd", ("ba", "dc"))
        self.check("Late", ("a", "b"), functions, "f0", "f1")
        self.check("Late", ("a", "b"), functions, "f1", "f0")
        self.check("Early", ("c", "d"), four_functions("ab", "cd", ("ab", "dc")), "f1", "f0")
        # A longer cycle of an earlier maker counts before a shorter one of a later maker.
        self.check("Late", ("a", "b", "c"), four_functions("ab", "cd", ("bc", "dc"), ("ca", "")), "f0", "f1", "f2")

    def test_functions_that_are_not_reached_do_not_count(self):
        functions = four_functions("ab", "abcd", ("ba", "abcd"), ("ab", "dcba"))
        self.assertEqual([slot[-1] for slot in cheapest(functions, "f0")["Early"]], ["a", "b", "c", "d"])
        self.assertEqual([slot[-1] for slot in cheapest(functions, "f2")["Early"]], ["d", "c", "b", "a"])
        self.check("Late", ("a", "b"), functions, "f0", "f1")
        self.check("Early", ("a", "b"), functions, "f0", "f2")

    def test_against_all_orders(self):
        found = {}
        for number in range(500):
            chance = seeded(number)
            functions = late_orders(*["".join(chance.sample("abcd", chance.choice([2, 2, 2, 3])))
                                      for _ in range(chance.randint(2, 5))])
            cycle = least_cycle(functions, functions.names, "Late")
            size = len(cycle or ())
            found[size] = found.get(size, 0) + 1
            if cycle is not None:
                self.check("Late", cycle, functions, *functions.names)
            elif found[0] % 5 == 0:
                layout = cheapest(functions, *functions.names)
                self.assertTrue(all(judge(functions, layout, name).right for name in functions.names))
        for size, count in ((0, 100), (2, 100), (3, 10), (4, 1)):
            self.assertGreaterEqual(found[size], count, found)


class OffersTest(unittest.TestCase):
    def test_no_starts(self):
        self.assertEqual(offers(last_functions(tree_kinds())), [((), (("n",), ("left", "right")), 0)])

    def test_one_start(self):
        self.assertEqual(offers(last_functions(tree_kinds()), "last"),
                         [((), (("n",), ("right", "left")), 0), (("last",), (("n",), ("+left", "right")), 2)])

    def test_order_of_the_sets(self):
        functions = wood_functions((("call", "f2", "left"),), (("read", "a"),), (("read", "b"),), ())
        ends = [ends for ends, specs, total in offers(functions, "f3", "f0")]
        self.assertEqual(ends, [(), ("f0",), ("f2",), ("f0", "f2"), ("f3",), ("f0", "f3"), ("f2", "f3"),
                                ("f0", "f2", "f3")])
        self.assertEqual([found[0] for found in offers(functions, "f2", "f1")],
                         [(), ("f1",), ("f2",), ("f1", "f2")])

    def test_totals(self):
        functions = wood_functions((("call", "f1", "left"), ("read", "a")), (("read", "b"),))
        leaf, full = ("n",), ("next", "wood")
        self.assertEqual(offers(functions, "f0"), [
            ((), (leaf, ("+left", "a", "b", "right"), full, ()), 2),
            # left may go without a length if f1 ends, but f1 ends only with both lengths.
            (("f0",), (leaf, ("+left", "+right", "a", "b"), full, ()), 5),
            (("f1",), (leaf, ("+left", "+right", "a", "b"), full, ()), 5),
            (("f0", "f1"), (leaf, ("+left", "+right", "a", "b"), full, ()), 5)])

    def test_forms(self):
        functions = last_functions(tree_kinds())
        found = offers(functions, "last")
        self.assertEqual((found.__class__, found[0].__class__, found[0][0].__class__, found[0][1].__class__),
                         (list, tuple, tuple, tuple))
        found.clear()
        self.assertEqual(len(offers(functions, "last")), 2)

    def test_against_the_words_of_the_document(self):
        different = 0
        for number in range(250):
            chance = seeded(number)
            functions, _ = random_case(chance)
            starts = [name for name in functions.names if chance.random() < 0.6]
            kinds = functions.kinds
            reached = functions.reached(*starts)
            if any(least_cycle(functions, reached, maker) for maker in kinds.order):
                continue
            found = offers(functions, *starts)
            self.assertEqual(len(found), 2 ** len(reached))
            for at, (ends, specs, total) in enumerate(found):
                self.assertEqual(ends, tuple(name for place, name in enumerate(reached) if at // 2 ** place % 2 == 1))
                self.assertEqual(specs, tuple(good_specs(functions, reached, ends, maker)[0] for maker in kinds.order))
                self.assertEqual(total, sum(spec_cost(kinds, *pair) for pair in zip(kinds.order, specs)))
            best = min((total, specs) for ends, specs, total in found)
            layout = cheapest(functions, *starts)
            self.assertEqual((layout.price, tuple(spec for maker, spec in layout)), best)
            different += len({specs for ends, specs, total in found}) > 1
        self.assertGreater(different, 50)


class ExtraPriceTest(unittest.TestCase):
    def test_extra_price(self):
        functions = wood_functions((("call", "f1", "left"), ("read", "a")), (("read", "b"),),
                                   (("read", "a"), ("call", "f2", "right")))
        self.assertEqual(extra_price(functions, "f0"), 2)
        self.assertEqual(extra_price(functions, "f0", "f1"), 2)
        self.assertEqual(extra_price(functions, "f2", "f0"), 0)
        self.assertEqual(extra_price(functions, "f0", "f2"), 2)

    def test_reached_from_the_starts(self):
        functions = wood_functions((("call", "f1", "left"), ("read", "a")), (("read", "b"),))
        self.assertEqual(extra_price(functions, "f1", "f0"), 0)
        self.assertEqual(extra_price(functions, "f0", "f0"), 0)
        self.assertEqual(extra_price(functions, "f0", "f1", "f0"), 0)

    def test_none_of_two_lengths_alone(self):
        # Only together do the two functions need a length.
        functions = wood_functions((("call", "f0", "left"),), (("call", "f1", "right"),))
        self.assertEqual([extra_price(functions, "f0"), extra_price(functions, "f1")], [0, 0])
        self.assertEqual([extra_price(functions, "f0", "f1"), extra_price(functions, "f1", "f0")], [2, 2])

    def test_unknown_names(self):
        functions = wood_functions((("read", "a"), ("read", "b")), (("read", "b"), ("read", "a")))
        for arguments, name in ((("x",), "x"), (("x", "y"), "x"), (("f0", "f1", "y", "z"), "y"),
                                (("", "f0", "f1"), "")):
            with self.assertRaises(NotThere) as caught:
                extra_price(functions, *arguments)
            self.assertEqual(caught.exception.name, name)

    def test_no_layout_as_with_the_name_among_the_starts(self):
        # The starts alone have a cycle in Early; with the name there is one in Late, which counts first.
        functions = four_functions("ab", "cd", ("ab", "dc"), ("ba", ""))
        for arguments, maker, cycle in ((("f2", "f0", "f1"), "Late", ("a", "b")), (("f1", "f0"), "Early", ("c", "d")),
                                        (("f0", "f0", "f1"), "Early", ("c", "d")), (("f2", "f0"), "Late", ("a", "b"))):
            with self.assertRaises(NoLayout) as caught:
                extra_price(functions, *arguments)
            self.assertEqual((caught.exception.maker, caught.exception.cycle), (maker, cycle))

    def test_against_cheapest(self):
        above = 0
        for number in range(150):
            functions, layout = random_case(seeded(number), count=4)
            for at, name in enumerate(functions.names):
                starts = functions.names[:at]
                try:
                    with_name = cheapest(functions, name, *starts)
                except NoLayout:
                    with self.assertRaises(NoLayout):
                        extra_price(functions, name, *starts)
                    continue
                found = extra_price(functions, name, *starts)
                self.assertEqual(found, with_name.price - cheapest(functions, *starts).price)
                above += found > 0
                self.assertTrue(found == 0 or name not in functions.reached(*starts))
        self.assertGreater(above, 10)


if __name__ == "__main__":
    unittest.main()
