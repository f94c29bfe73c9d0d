"""Points 1 to 4 and 31 for kinds.py: names, tables, and what a table tells."""

import unittest

from bytegrove.errors import BadKinds, NotThere
from bytegrove.kinds import Kinds
from tests.samples import BOOK_ROWS, TREE_ROWS, book_kinds, tree_kinds

GOOD_NAMES = ["a", "Z", "a1", "A9z", "a" * 24, "Z" + "9" * 23, "byte1", "Byte"]
BAD_NAMES = ["", "a" * 25, "1", "1a", "a_b", "_a", "a b", " a", "a ", "a.b", "+a", "a-", "a\n", "@", "[", "`a", "a{"]


def row_of(test, rows):
    """Return the row that BadKinds tells for the rows."""
    with test.assertRaises(BadKinds) as caught:
        Kinds(rows)
    return caught.exception.row


def fillers(count, kind="Fill"):
    """Return so many valid rows of one kind."""
    return [(kind, "F%d" % at, ()) for at in range(count)]


class NamesTest(unittest.TestCase):
    def test_good_names(self):
        for name in GOOD_NAMES:
            kinds = Kinds([(name, name, ((name, "byte"), (name + "x" if len(name) < 24 else "x", name, 1))),
                           (name, "other0", ())])
            self.assertEqual(kinds.names, (name,))
            self.assertEqual(kinds.order, (name, "other0"))
            self.assertEqual(kinds.parts(name)[0], name)

    def test_each_letter_and_digit(self):
        for code in range(128):
            letter = chr(code)
            first = "a" <= letter <= "z" or "A" <= letter <= "Z"
            later = first or "0" <= letter <= "9"
            for name, good in ((letter, first), ("a" + letter, later)):
                if good:
                    Kinds([("K", name, ())])
                else:
                    self.assertEqual(row_of(self, [("K", name, ())]), 0, repr(name))

    def test_bad_kind_maker_part_and_inner_kind(self):
        for name in BAD_NAMES:
            self.assertEqual(row_of(self, fillers(1) + [(name, "M", ())]), 1, repr(name))
            self.assertEqual(row_of(self, fillers(1) + [("K", name, ())]), 1, repr(name))
            self.assertEqual(row_of(self, fillers(1) + [("K", "M", ((name, "byte"),))]), 1, repr(name))
            self.assertEqual(row_of(self, fillers(1) + [("K", "M", ((name, "Fill", 1),))]), 1, repr(name))
            self.assertEqual(row_of(self, fillers(1) + [("K", "M", (("p", name, 1),))]), 1, repr(name))


class FirstPassTest(unittest.TestCase):
    def test_empty_table(self):
        self.assertEqual(row_of(self, []), 0)

    def test_byte_is_no_kind(self):
        self.assertEqual(row_of(self, [("byte", "M", ())]), 0)
        self.assertEqual(row_of(self, [("K", "M", ()), ("K", "N", (("p", "byte", 5),))]), 1)

    def test_byte_may_name_a_maker_and_a_part(self):
        kinds = Kinds([("K", "byte", (("byte", "byte"),))])
        self.assertEqual(kinds.parts("byte"), ("byte",))
        self.assertEqual(kinds.inner("byte", "byte"), "byte")

    def test_second_row_with_a_maker(self):
        self.assertEqual(row_of(self, [("K", "M", ()), ("K", "N", ()), ("L", "M", ())]), 2)
        self.assertEqual(row_of(self, [("K", "M", ()), ("K", "M", ())]), 1)
        Kinds([("K", "M", ()), ("K", "m", ())])

    def test_four_and_five_parts(self):
        four = tuple((name, "byte") for name in "abcd")
        self.assertEqual(Kinds([("K", "M", four)]).parts("M"), ("a", "b", "c", "d"))
        self.assertEqual(row_of(self, fillers(1) + [("K", "M", four + (("e", "byte"),))]), 1)

    def test_parts_of_another_form(self):
        for part in ((), ("p",), ("p", "Fill"), ("p", "byte", 1), ("p", "byte", 1, 1), ("p", "Fill", 1, 1),
                     ("p", 1), ("p", "Fill", "1"), ("p", "Fill", None), (1, "byte"), ("p", 1, 1), "ab", "p", 5,
                     ("p", ""), ("p", "Byte"), (("p", "byte"), "byte")):
            self.assertEqual(row_of(self, fillers(2) + [("Fill", "M", (part,))]), 2, part)
            self.assertEqual(row_of(self, fillers(2) + [("Fill", "M", (("q", "byte"), part))]), 2, part)

    def test_prices(self):
        for price in (1, 2, 999, 1000):
            kinds = Kinds(fillers(1) + [("K", "M", (("p", "Fill", price),))])
            self.assertEqual(kinds.price_of("M", "p"), price)
        for price in (0, -1, 1001, 10 ** 9):
            self.assertEqual(row_of(self, fillers(1) + [("K", "M", (("p", "Fill", price),))]), 1, price)

    def test_two_parts_of_one_name(self):
        self.assertEqual(row_of(self, [("K", "M", (("p", "byte"), ("p", "byte")))]), 0)
        self.assertEqual(row_of(self, fillers(1) + [("K", "M", (("p", "byte"), ("q", "byte"), ("p", "Fill", 3)))]), 1)
        Kinds(fillers(1) + [("K", "M", (("p", "byte"), ("P", "Fill", 3)))])

    def test_twelve_and_thirteen_rows(self):
        self.assertEqual(len(Kinds(fillers(12)).order), 12)
        self.assertEqual(row_of(self, fillers(13)), 12)
        self.assertEqual(row_of(self, fillers(15)), 12)

    def test_four_and_five_kinds(self):
        rows = [("K%d" % at, "M%d" % at, ()) for at in range(5)]
        self.assertEqual(len(Kinds(rows[:4]).names), 4)
        self.assertEqual(row_of(self, rows), 4)
        again = rows[:4] + [("K0", "N0", ()), ("K3", "N3", ())]
        self.assertEqual(Kinds(again).names, ("K0", "K1", "K2", "K3"))
        self.assertEqual(row_of(self, again + rows[4:]), 6)

    def test_earlier_invalid_row_counts_first(self):
        bad = [("K", "1", ())]
        self.assertEqual(row_of(self, fillers(3) + bad + fillers(3)), 3)
        self.assertEqual(row_of(self, bad + fillers(13)), 0)
        self.assertEqual(row_of(self, fillers(11) + bad + [("K", "M", ())]), 11)
        self.assertEqual(row_of(self, fillers(12) + bad), 12)
        kinds = [("K%d" % at, "M%d" % at, ()) for at in range(5)]
        self.assertEqual(row_of(self, kinds[:2] + [("K0", "M0", ())] + kinds[2:]), 2)
        self.assertEqual(row_of(self, kinds + [("K0", "M0", ())]), 4)


class SecondPassTest(unittest.TestCase):
    def test_unknown_inner_kind(self):
        self.assertEqual(row_of(self, [("K", "M", ()), ("K", "N", (("a", "K", 1), ("b", "L", 1)))]), 1)
        self.assertEqual(row_of(self, [("K", "M", (("a", "k", 1),)), ("K", "N", (("a", "L", 1),))]), 0)

    def test_kind_of_a_later_row_is_known(self):
        kinds = Kinds([("K", "M", (("a", "L", 1),)), ("L", "N", ())])
        self.assertEqual(kinds.inner("M", "a"), "L")

    def test_name_of_a_maker_is_no_kind(self):
        self.assertEqual(row_of(self, [("K", "M", (("a", "M", 1),))]), 0)

    def test_first_pass_counts_first(self):
        unknown = ("K", "M", (("a", "L", 1),))
        self.assertEqual(row_of(self, [unknown, ("K", "N", ()), ("K", "N", ())]), 2)
        self.assertEqual(row_of(self, [unknown] + fillers(12)), 12)


class ThirdPassTest(unittest.TestCase):
    def test_kind_without_a_finite_tree(self):
        self.assertEqual(row_of(self, [("K", "M", (("a", "K", 1),))]), 0)
        self.assertEqual(row_of(self, fillers(2) + [("K", "M", (("a", "L", 1),)), ("L", "N", (("a", "K", 1),)),
                                                    ("K", "O", (("a", "Fill", 1), ("b", "K", 1)))]), 2)

    def test_first_row_of_the_first_such_kind(self):
        rows = [("A", "A0", ()), ("C", "C0", (("x", "B", 1),)), ("B", "B0", (("x", "C", 1),)),
                ("B", "B1", (("x", "B", 1),)), ("C", "C1", (("x", "A", 1), ("y", "C", 1)))]
        self.assertEqual(row_of(self, rows), 1)
        self.assertEqual(row_of(self, [rows[0], rows[2], rows[1]]), 1)

    def test_kind_that_needs_another_without_a_finite_tree(self):
        rows = [("A", "A0", (("x", "B", 1),)), ("B", "B0", (("x", "B", 1),))]
        self.assertEqual(row_of(self, rows), 0)
        self.assertEqual(row_of(self, rows[::-1]), 0)
        self.assertEqual(row_of(self, [("A", "A1", ())] + rows), 2)

    def test_finite_through_a_later_maker(self):
        Kinds([("A", "A0", (("x", "B", 1),)), ("B", "B0", (("x", "A", 1),)), ("B", "B1", ())])

    def test_chain_of_four_kinds(self):
        rows = [("A", "A0", (("x", "B", 1),)), ("B", "B0", (("x", "C", 1),)), ("C", "C0", (("x", "D", 1),)),
                ("D", "D0", ())]
        self.assertEqual(Kinds(rows).least("A"), ("A0", ("B0", ("C0", ("D0",)))))
        self.assertEqual(Kinds(rows[::-1]).least("A"), ("A0", ("B0", ("C0", ("D0",)))))

    def test_second_pass_counts_first(self):
        endless = ("A", "A0", (("x", "A", 1),))
        self.assertEqual(row_of(self, [endless, ("B", "B0", (("x", "C", 1),))]), 1)

    def test_first_pass_counts_first(self):
        endless = ("A", "A0", (("x", "A", 1),))
        self.assertEqual(row_of(self, [endless, ("B", "B0", (("x", "C", 1),)), ("B", "2", ())]), 2)


class TableTest(unittest.TestCase):
    def test_names_and_order(self):
        kinds = book_kinds()
        self.assertEqual(kinds.names, ("Book", "Page"))
        self.assertEqual(kinds.order, ("Empty", "Page", "Bound", "Blank"))

    def test_makers_and_tags(self):
        kinds = book_kinds()
        self.assertEqual(kinds.makers("Book"), ("Empty", "Bound"))
        self.assertEqual(kinds.makers("Page"), ("Page", "Blank"))
        self.assertEqual([kinds.tag(maker) for maker in kinds.order], [0, 0, 1, 1])
        self.assertEqual([kinds.kind_of(maker) for maker in kinds.order], ["Book", "Page", "Book", "Page"])

    def test_parts(self):
        kinds = book_kinds()
        self.assertEqual(kinds.parts("Empty"), ())
        self.assertEqual(kinds.parts("Bound"), ("first", "mark", "rest", "no"))
        self.assertEqual([kinds.inner("Bound", part) for part in kinds.parts("Bound")],
                         ["Page", "byte", "Book", "byte"])
        self.assertEqual([kinds.price_of("Bound", part) for part in kinds.parts("Bound")], [1000, 0, 1, 0])
        self.assertEqual(kinds.price_of("Page", "rest"), 7)

    def test_same_name_for_a_kind_a_maker_and_parts(self):
        kinds = Kinds([("Same", "Same", (("Same", "byte"),)), ("Same", "Other", (("Same", "Same", 4),))])
        self.assertEqual(kinds.kind_of("Same"), "Same")
        self.assertEqual(kinds.inner("Same", "Same"), "byte")
        self.assertEqual(kinds.inner("Other", "Same"), "Same")

    def test_in(self):
        kinds = tree_kinds()
        self.assertIs("Leaf" in kinds, True)
        self.assertIs("Node" in kinds, True)
        for name in ("Tree", "n", "", "leaf", "Leaf.n"):
            self.assertIs(name in kinds, False)

    def test_tuples_are_tuples(self):
        kinds = book_kinds()
        for value in (kinds.names, kinds.order, kinds.makers("Book"), kinds.parts("Empty"), kinds.parts("Bound")):
            self.assertIs(value.__class__, tuple)

    def test_rows_are_not_changed_and_not_kept(self):
        rows = list(BOOK_ROWS)
        kinds = Kinds(rows)
        self.assertEqual(rows, BOOK_ROWS)
        rows[0] = ("Book", "Other", (("x", "byte"),))
        rows.clear()
        self.assertEqual(kinds.order, ("Empty", "Page", "Bound", "Blank"))
        self.assertEqual(kinds.makers("Book"), ("Empty", "Bound"))
        self.assertEqual(kinds.parts("Empty"), ())
        self.assertEqual(kinds.least("Book"), ("Empty",))
        self.assertTrue(kinds.fits(("Bound", ("Blank", 1), 2, ("Empty",), 3), "Book"))

    def test_two_tables_are_separate(self):
        first = Kinds(TREE_ROWS)
        second = Kinds(BOOK_ROWS)
        self.assertEqual((first.names, second.names), (("Tree",), ("Book", "Page")))


class NotThereTest(unittest.TestCase):
    def check(self, name, call, *arguments):
        with self.assertRaises(NotThere) as caught:
            call(*arguments)
        self.assertEqual(caught.exception.name, name)

    def test_unknown_kinds(self):
        kinds = tree_kinds()
        for name in ("Leaf", "tree", "", "byte", "n"):
            self.check(name, kinds.makers, name)
            self.check(name, kinds.least, name)
            for value in (("Leaf", 5), (), 5, "Leaf", True, ("Leaf", 256)):
                self.check(name, kinds.fits, value, name)

    def test_unknown_makers(self):
        kinds = tree_kinds()
        for name in ("Tree", "leaf", "", "n", "Leaf.n"):
            self.check(name, kinds.kind_of, name)
            self.check(name, kinds.tag, name)
            self.check(name, kinds.parts, name)
            self.check(name, kinds.inner, name, "n")
            self.check(name, kinds.price_of, name, "n")
            self.check(name, kinds.node, name, 5)
            self.check(name, kinds.node, name)

    def test_unknown_parts(self):
        kinds = tree_kinds()
        for maker, part in (("Leaf", "left"), ("Node", "n"), ("Node", ""), ("Node", "+left"), ("Leaf", "Leaf")):
            self.check(part, kinds.inner, maker, part)
            self.check(part, kinds.price_of, maker, part)

    def test_the_maker_goes_before_the_part(self):
        kinds = tree_kinds()
        self.check("Tree", kinds.inner, "Tree", "nothing")
        self.check("Tree", kinds.price_of, "Tree", "nothing")


if __name__ == "__main__":
    unittest.main()
