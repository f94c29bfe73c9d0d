"""Points 7 to 10, with 1 and 31, for layouts.py."""

import itertools
import unittest

from bytegrove.errors import BadKinds, BadLayout, NotThere
from bytegrove.kinds import Kinds
from bytegrove.layouts import Layout
from tests.samples import book_kinds, random_layout, random_rows, seeded, tree_kinds

PAIR_ROWS = [("K", "End", ()),
             ("K", "Two", (("a", "K", 5), ("b", "K", 5))),
             ("K", "Mixed", (("n", "byte"), ("c", "K", 10), ("d", "K", 1)))]


def specs_of(**changed):
    """Return the specs of a good layout of the pair rows, with some changed and those with None left out."""
    specs = {"End": (), "Two": ("a", "b"), "Mixed": ("n", "c", "d")}
    specs.update(changed)
    return {maker: spec for maker, spec in specs.items() if spec is not None}


def pair_layout(**changed):
    return Layout(Kinds(PAIR_ROWS), specs_of(**changed))


def layouts_of(kinds, **changed):
    return Layout(kinds, specs_of(**changed))


class SpecsTest(unittest.TestCase):
    def check_bad(self, maker, **changed):
        with self.assertRaises(BadLayout) as caught:
            pair_layout(**changed)
        self.assertEqual(caught.exception.maker, maker, changed)

    def test_good_specs(self):
        for spec in itertools.permutations(("n", "c", "d")):
            for pluses in itertools.product(("", "+"), repeat=2):
                slots = tuple({"n": "n", "c": pluses[0] + "c", "d": pluses[1] + "d"}[part] for part in spec)
                self.assertEqual(pair_layout(Mixed=slots)["Mixed"], slots)

    def test_missing_spec(self):
        for maker in ("End", "Two", "Mixed"):
            self.check_bad(maker, **{maker: None})

    def test_part_missing_twice_or_too_many(self):
        self.check_bad("End", End=("a",))
        self.check_bad("End", End=("",))
        self.check_bad("Two", Two=())
        self.check_bad("Two", Two=("a",))
        self.check_bad("Two", Two=("a", "a"))
        self.check_bad("Two", Two=("a", "+a"))
        self.check_bad("Two", Two=("a", "b", "a"))
        self.check_bad("Two", Two=("a", "b", "+b"))
        self.check_bad("Two", Two=("a", "b", ""))
        self.check_bad("Mixed", Mixed=("n", "c", "d", "+c"))

    def test_unknown_slots(self):
        for slot in ("", "+", "++b", "b+", "+ b", " b", "c", "B", "-b", "Two.b", "b "):
            self.check_bad("Two", Two=("a", slot))
            self.check_bad("Two", Two=("a", "b", slot))

    def test_measured_byte_part(self):
        self.check_bad("Mixed", Mixed=("+n", "c", "d"))
        self.check_bad("Mixed", Mixed=("+d", "+c", "+n"))

    def test_first_maker_in_the_order_of_the_rows(self):
        self.check_bad("End", End=None, Two=None, Mixed=None)
        self.check_bad("Two", Two=("a",), Mixed=None)
        self.check_bad("Two", Two=None, Mixed=("+n", "c", "d"))
        kinds = Kinds(PAIR_ROWS)
        with self.assertRaises(BadLayout) as caught:
            Layout(kinds, {"Mixed": (), "Two": (), "End": ()})
        self.assertEqual(caught.exception.maker, "Two")
        with self.assertRaises(BadLayout) as caught:
            Layout(kinds, {})
        self.assertEqual(caught.exception.maker, "End")

    def test_unknown_maker_goes_first(self):
        kinds = Kinds(PAIR_ROWS)
        for specs, name in (({"K": ()}, "K"), (specs_of(K=()), "K"), (specs_of(End=("x",), end=()), "end"),
                            ({"Two": None, "": (), "x": ()}, ""), ({"x": (), "": ()}, "x")):
            with self.assertRaises(NotThere) as caught:
                Layout(kinds, specs)
            self.assertEqual(caught.exception.name, name)

    def test_kinds_is_the_same_object(self):
        kinds = Kinds(PAIR_ROWS)
        layout = layouts_of(kinds)
        for each in (layout, layout + "Two.a", layout - "Two.a", Layout.plain(kinds), Layout.measured(kinds)):
            self.assertIs(each.kinds, kinds)

    def test_dict_is_copied(self):
        kinds = Kinds(PAIR_ROWS)
        specs = specs_of(Two=("+a", "b"))
        layout = Layout(kinds, specs)
        specs["Two"] = ("b", "a")
        del specs["End"]
        self.assertEqual(list(layout), [("End", ()), ("Two", ("+a", "b")), ("Mixed", ("n", "c", "d"))])
        self.assertEqual(layout.price, 5)

    def test_dict_is_not_changed(self):
        specs = specs_of()
        layout = Layout(Kinds(PAIR_ROWS), specs)
        layout += "Two.a"
        layout["Mixed"] = ("d", "c", "n")
        self.assertEqual(list(specs.items()), list(specs_of().items()))


class ReadAndAssignTest(unittest.TestCase):
    def test_plain_and_measured(self):
        kinds = book_kinds()
        self.assertEqual(list(Layout.plain(kinds)),
                         [("Empty", ()), ("Page", ("no", "rest")), ("Bound", ("first", "mark", "rest", "no")),
                          ("Blank", ("no",))])
        self.assertEqual(list(Layout.measured(kinds)),
                         [("Empty", ()), ("Page", ("no", "+rest")), ("Bound", ("+first", "mark", "+rest", "no")),
                          ("Blank", ("no",))])
        self.assertEqual(Layout.plain(kinds).price, 0)
        self.assertEqual(Layout.measured(kinds).price, 1008)

    def test_iteration_is_in_the_order_of_the_rows(self):
        kinds = Kinds(PAIR_ROWS)
        layout = Layout(kinds, {"Mixed": ("d", "+c", "n"), "End": (), "Two": ("b", "a")})
        pairs = [("End", ()), ("Two", ("b", "a")), ("Mixed", ("d", "+c", "n"))]
        self.assertEqual(list(layout), pairs)
        self.assertEqual([pair for pair in layout], pairs)
        self.assertEqual({pair.__class__ for pair in layout}, {tuple})
        self.assertEqual(dict(layout), dict(pairs))

    def test_read(self):
        layout = pair_layout(Two=("+b", "a"))
        self.assertEqual(layout["Two"], ("+b", "a"))
        self.assertEqual(layout["End"], ())
        self.assertEqual(layout["Mixed"], ("n", "c", "d"))

    def test_assign(self):
        layout = pair_layout()
        layout["Two"] = ("+b", "+a")
        self.assertEqual(layout["Two"], ("+b", "+a"))
        self.assertEqual(layout.price, 10)
        layout["Mixed"] = ("d", "+c", "n")
        self.assertEqual(list(layout), [("End", ()), ("Two", ("+b", "+a")), ("Mixed", ("d", "+c", "n"))])
        self.assertEqual(layout.price, 20)
        layout["Two"] = ("b", "a")
        self.assertEqual(layout.price, 10)
        layout["End"] = ()
        self.assertEqual(layout["End"], ())

    def test_assign_that_raises_changes_nothing(self):
        layout = pair_layout(Two=("+b", "a"))
        before = list(layout)
        for spec in ((), ("a",), ("a", "a"), ("a", "b", "b"), ("a", "+"), ("++a", "b"), ("n", "c", "d")):
            with self.assertRaises(BadLayout) as caught:
                layout["Two"] = spec
            self.assertEqual(caught.exception.maker, "Two")
        with self.assertRaises(BadLayout) as caught:
            layout["Mixed"] = ("+n", "c", "d")
        self.assertEqual(caught.exception.maker, "Mixed")
        self.assertEqual((list(layout), layout.price), (before, 5))

    def test_unknown_maker(self):
        layout = pair_layout()
        before = list(layout)
        for name in ("K", "", "two", "Two.a", "a"):
            with self.assertRaises(NotThere) as caught:
                layout[name]
            self.assertEqual(caught.exception.name, name)
            for spec in ((), ("a", "b"), ("nonsense",)):
                with self.assertRaises(NotThere) as caught:
                    layout[name] = spec
                self.assertEqual(caught.exception.name, name)
        self.assertEqual(list(layout), before)

    def test_mark_checks_nothing(self):
        self.assertEqual(Layout.mark("Two", "a"), "Two.a")
        self.assertEqual(Layout.mark("", "no such"), ".no such")
        self.assertEqual(pair_layout().mark("x", "y"), "x.y")


class OrderTest(unittest.TestCase):
    def setUp(self):
        self.kinds = Kinds(PAIR_ROWS)

    def of(self, **changed):
        return layouts_of(self.kinds, **changed)

    def test_price(self):
        self.assertEqual(self.of().price, 0)
        self.assertEqual(self.of(Two=("b", "+a")).price, 5)
        self.assertEqual(self.of(Two=("+b", "+a"), Mixed=("+d", "n", "+c")).price, 21)

    def test_price_decides_first(self):
        cheap = self.of(Two=("b", "a"), Mixed=("n", "d", "c"))
        dear = self.of(Two=("+a", "b"))
        # As specs alone the second would be less: "+" comes before each letter.
        self.assertLess(dear["Two"], cheap["Two"])
        self.check_less(cheap, dear)
        self.check_less(self.of(Mixed=("n", "c", "+d")), self.of(Two=("+a", "b")))

    def test_equal_prices(self):
        self.check_less(self.of(Two=("+a", "+b")), self.of(Mixed=("+c", "n", "d")))
        self.check_less(self.of(Two=("+a", "b")), self.of(Two=("+b", "a")))
        self.check_less(self.of(Two=("+b", "a")), self.of(Two=("a", "+b")))
        self.check_less(self.of(Two=("a", "b")), self.of(Two=("b", "a")))
        self.check_less(self.of(Two=("a", "b"), Mixed=("n", "d", "c")), self.of(Two=("b", "a"), Mixed=("c", "d", "n")))
        self.check_less(self.of(Mixed=("n", "c", "d")), self.of(Mixed=("n", "d", "c")))

    def test_order_of_the_rows_decides_not_that_of_the_dict(self):
        one = Layout(self.kinds, {"Mixed": ("c", "n", "d"), "Two": ("b", "a"), "End": ()})
        other = Layout(self.kinds, {"Mixed": ("n", "c", "d"), "Two": ("a", "b"), "End": ()})
        self.check_less(other, one)

    def check_less(self, one, other):
        self.assertIs(one < other, True)
        self.assertIs(one <= other, True)
        self.assertIs(one == other, False)
        self.assertIs(one != other, True)
        self.assertIs(other < one, False)
        self.assertIs(other <= one, False)
        self.assertIs(other > one, True)
        self.assertIs(other >= one, True)

    def test_equal_layouts(self):
        one = self.of(Two=("+b", "a"))
        other = Layout(self.kinds, {"Mixed": ("n", "c", "d"), "Two": ("+b", "a"), "End": ()})
        self.assertIs(one == other, True)
        self.assertIs(one <= other, True)
        self.assertIs(one >= other, True)
        self.assertIs(one < other, False)
        self.assertIs(one != other, False)
        self.assertIs(one == one, True)

    def test_equal_after_a_change(self):
        one = self.of()
        other = self.of()
        other["Two"] = ("b", "+a")
        self.assertFalse(one == other)
        one += "Two.a"
        self.assertFalse(one == other)
        one["Two"] = ("b", "+a")
        self.assertTrue(one == other)
        other -= "Two.a"
        self.check_less(other, one)

    def test_against_the_words_of_the_document(self):
        chance = seeded(8)
        layouts = [random_layout(chance, self.kinds) for _ in range(60)]
        for one, other in itertools.product(layouts, layouts):
            keys = [(each.price, [spec for maker, spec in each]) for each in (one, other)]
            self.assertEqual(one < other, keys[0] < keys[1])
            self.assertEqual(one <= other, keys[0] <= keys[1])
            self.assertEqual(one == other, keys[0] == keys[1])


class MarksTest(unittest.TestCase):
    MARKS = ["Two.a", "Two.b", "Mixed.c", "Mixed.d"]
    NO_MARKS = ["", ".", "Two", "Two.", ".a", "Two.n", "Mixed.n", "Mixed.a", "K.a", "End.a", "End.", "two.a", "Two.A",
                "Two.+a", "+Two.a", "Two a", "Two.a ", " Two.a", "Two..a", "Two.a.b", "Two.a.", "a", "Two:a", "a.Two"]

    def setUp(self):
        self.kinds = Kinds(PAIR_ROWS)
        self.layout = layouts_of(self.kinds, Two=("+b", "a"), Mixed=("d", "+c", "n"))

    def test_in(self):
        self.assertEqual([mark in self.layout for mark in self.MARKS], [False, True, True, False])
        for mark in self.MARKS:
            self.assertIs(mark in Layout.plain(self.kinds), False)
            self.assertIs(mark in Layout.measured(self.kinds), True)
        for text in self.NO_MARKS:
            self.assertIs(text in Layout.measured(self.kinds), False, text)

    def test_plus_and_minus_return_a_new_layout(self):
        before = list(self.layout)
        more = self.layout + "Two.a"
        self.assertEqual(list(more), [("End", ()), ("Two", ("+b", "+a")), ("Mixed", ("d", "+c", "n"))])
        self.assertEqual(more.price, 20)
        less = self.layout - "Mixed.c"
        self.assertEqual(list(less), [("End", ()), ("Two", ("+b", "a")), ("Mixed", ("d", "c", "n"))])
        self.assertEqual(less.price, 5)
        self.assertEqual((list(self.layout), self.layout.price), (before, 15))

    def test_plus_and_minus_where_nothing_differs(self):
        for changed in (self.layout + "Two.b", self.layout - "Two.a"):
            self.assertTrue(changed == self.layout)
            self.assertIsNot(changed, self.layout)
            changed["Two"] = ("a", "b")
            self.assertEqual(self.layout["Two"], ("+b", "a"))

    def test_new_layout_is_separate(self):
        more = self.layout + "Two.a"
        more -= "Two.b"
        self.layout += "Mixed.d"
        self.assertEqual(more["Two"], ("b", "+a"))
        self.assertEqual(more["Mixed"], ("d", "+c", "n"))
        self.assertEqual(self.layout["Two"], ("+b", "a"))

    def test_in_place(self):
        same = self.layout
        self.layout += "Two.a"
        self.assertIs(self.layout, same)
        self.assertEqual((same["Two"], same.price), (("+b", "+a"), 20))
        self.layout += "Two.a"
        self.assertEqual((same["Two"], same.price), (("+b", "+a"), 20))
        self.layout -= "Two.b"
        self.assertIs(self.layout, same)
        self.assertEqual((same["Two"], same.price), (("b", "+a"), 15))
        self.layout -= "Two.b"
        self.assertEqual(list(same), [("End", ()), ("Two", ("b", "+a")), ("Mixed", ("d", "+c", "n"))])

    def check_no_mark(self, text, change):
        with self.assertRaises(NotThere) as caught:
            change(self.layout, text)
        self.assertEqual(caught.exception.name, text)

    def test_strings_that_are_no_marks(self):
        def add(layout, text):
            layout += text

        def take(layout, text):
            layout -= text

        before = list(self.layout)
        for text in self.NO_MARKS:
            self.check_no_mark(text, lambda layout, mark: layout + mark)
            self.check_no_mark(text, lambda layout, mark: layout - mark)
            self.check_no_mark(text, add)
            self.check_no_mark(text, take)
        self.assertEqual((list(self.layout), self.layout.price), (before, 15))

    def test_marks_of_just_one(self):
        other = layouts_of(self.kinds, Two=("+a", "+b"), Mixed=("n", "c", "+d"))
        self.assertEqual(self.layout ^ other, ["Two.a", "Mixed.c", "Mixed.d"])
        self.assertEqual(other ^ self.layout, ["Two.a", "Mixed.c", "Mixed.d"])
        self.assertEqual(self.layout ^ self.layout, [])
        self.assertEqual(Layout.plain(self.kinds) ^ Layout.measured(self.kinds), self.MARKS)
        # The order of the parts in the specs does not matter.
        self.assertEqual(layouts_of(self.kinds, Two=("b", "a")) ^ Layout.plain(self.kinds), [])

    def test_order_of_marks_is_that_of_the_table(self):
        kinds = Kinds([("K", "Z", (("y", "K", 1), ("x", "L", 1))), ("L", "M", ()), ("K", "A", (("c", "L", 1),))])
        self.assertEqual(Layout.measured(kinds) ^ Layout.plain(kinds), ["Z.y", "Z.x", "A.c"])
        turned = Layout(kinds, {"A": ("+c",), "M": (), "Z": ("+x", "+y")})
        self.assertEqual(turned ^ Layout.plain(kinds), ["Z.y", "Z.x", "A.c"])

    def test_returned_list_is_not_kept(self):
        other = Layout.plain(self.kinds)
        marks = self.layout ^ other
        self.assertEqual(marks, ["Two.b", "Mixed.c"])
        marks.clear()
        self.assertEqual(self.layout ^ other, ["Two.b", "Mixed.c"])
        kept = self.layout ^ other
        self.layout += "Two.a"
        self.assertEqual(kept, ["Two.b", "Mixed.c"])

    def test_same_part_name_in_several_makers(self):
        kinds = Kinds([("K", "E", ()), ("K", "A", (("x", "K", 1),)), ("K", "B", (("x", "K", 2),)),
                       ("K", "x", (("A", "K", 4),))])
        layout = Layout.plain(kinds) + "B.x"
        self.assertEqual(list(layout), [("E", ()), ("A", ("x",)), ("B", ("+x",)), ("x", ("A",))])
        layout += "x.A"
        self.assertEqual(layout ^ Layout.plain(kinds), ["B.x", "x.A"])
        self.assertEqual(layout.price, 6)

    def test_random_marks(self):
        chance = seeded(9)
        checked = 0
        while checked < 100:
            rows = random_rows(chance, 2, 6)
            try:
                kinds = Kinds(rows)
            except BadKinds:
                continue
            one, other = random_layout(chance, kinds), random_layout(chance, kinds)
            marks = ["%s.%s" % (maker, part[0]) for kind, maker, parts in rows for part in parts if len(part) == 3]
            self.assertEqual(one ^ other, [mark for mark in marks if (mark in one) != (mark in other)])
            self.assertEqual(one.price, sum(kinds.price_of(*mark.split(".")) for mark in marks if mark in one))
            for mark in one ^ other:
                other = other + mark if mark in one else other - mark
            self.assertEqual(one ^ other, [])
            checked += 1


class LinesTest(unittest.TestCase):
    def test_lines(self):
        layout = Layout(tree_kinds(), {"Leaf": ("n",), "Node": ("+left", "right")})
        self.assertEqual(layout.lines(), ["Leaf                          0 n",
                                          "Node                          2 +left right",
                                          "price                         2"])

    def test_long_name_and_high_prices(self):
        name = "N" * 24
        parts = tuple((part, "K", 1000) for part in "abcd")
        kinds = Kinds([("K", "E", ()), ("K", name, parts)] + [("K", "M%d" % at, parts) for at in range(10)])
        lines = Layout.measured(kinds).lines()
        self.assertEqual(len(lines), 13)
        self.assertEqual(lines[0], "E                             0")
        self.assertEqual(lines[1], "NNNNNNNNNNNNNNNNNNNNNNNN   4000 +a +b +c +d")
        self.assertEqual(lines[11], "M9                         4000 +a +b +c +d")
        self.assertEqual(lines[12], "price                     44000")
        self.assertEqual(Layout.plain(kinds).lines()[12], "price                         0")

    def test_after_a_change(self):
        layout = Layout.plain(tree_kinds())
        layout["Node"] = ("right", "+left")
        self.assertEqual(layout.lines()[1:], ["Node                          2 right +left",
                                              "price                         2"])
        layout += "Node.right"
        self.assertEqual(layout.lines()[1:], ["Node                          5 +right +left",
                                              "price                         5"])
        layout -= "Node.left"
        self.assertEqual(layout.lines()[1:], ["Node                          3 +right left",
                                              "price                         3"])

    def test_returned_list_is_not_kept(self):
        layout = Layout.plain(tree_kinds())
        lines = layout.lines()
        expected = list(lines)
        lines.append("more")
        lines[0] = ""
        self.assertEqual(layout.lines(), expected)
        layout += "Node.left"
        self.assertEqual(lines[1:], expected[1:] + ["more"])


class InterfaceTest(unittest.TestCase):
    def test_methods_stand_in_the_class_itself(self):
        for name in ("plain", "measured", "mark", "__getitem__", "__setitem__", "price", "__lt__", "__le__", "__eq__",
                     "__contains__", "__add__", "__sub__", "__iadd__", "__isub__", "__xor__", "__iter__", "lines"):
            self.assertIn(name, vars(Layout))
        self.assertIsInstance(vars(Layout)["plain"], classmethod)
        self.assertIsInstance(vars(Layout)["measured"], classmethod)
        self.assertIsInstance(vars(Layout)["mark"], staticmethod)
        self.assertIsInstance(vars(Layout)["price"], property)
        for name in ("makers", "kind_of", "tag", "parts", "inner", "price_of", "__contains__", "fits", "node", "least"):
            self.assertIn(name, vars(Kinds))


if __name__ == "__main__":
    unittest.main()
