"""Points 5 and 6: which values are trees, and which tree is the least."""

import itertools
import unittest

from bytegrove.errors import BadKinds, BadTree
from bytegrove.kinds import Kinds
from tests.samples import CHAIN_ROWS, book_kinds, chain, random_rows, seeded, tree_kinds


class FitsTest(unittest.TestCase):
    def test_trees(self):
        kinds = tree_kinds()
        for tree in (("Leaf", 5), ("Node", ("Leaf", 0), ("Leaf", 255)),
                     ("Node", ("Node", ("Leaf", 1), ("Leaf", 2)), ("Leaf", 3))):
            self.assertIs(kinds.fits(tree, "Tree"), True)

    def test_bytes(self):
        kinds = tree_kinds()
        for value, good in ((-1, False), (0, True), (1, True), (255, True), (256, False), (True, False),
                            (False, False), ("5", False), ((), False), (("Leaf", 5), False), ("", False)):
            self.assertIs(kinds.fits(("Leaf", value), "Tree"), good, value)
            self.assertIs(kinds.fits(("Node", ("Leaf", 1), ("Leaf", value)), "Tree"), good, value)

    def test_values_that_are_no_tuples_with_a_maker(self):
        kinds = tree_kinds()
        for value in ((), 5, True, "Leaf", "", (5,), ((),), (True, 5), ("leaf", 5), ("Tree", 5), ("", 5),
                      (("Leaf", 5),), ("n", 5), (("Leaf",), 5)):
            self.assertIs(kinds.fits(value, "Tree"), False, value)
            self.assertIs(kinds.fits(("Node", ("Leaf", 1), value), "Tree"), False, value)

    def test_number_of_parts(self):
        kinds = tree_kinds()
        leaf = ("Leaf", 5)
        for value in (("Leaf",), ("Leaf", 5, 5), ("Node",), ("Node", leaf), ("Node", leaf, leaf, leaf)):
            self.assertIs(kinds.fits(value, "Tree"), False, value)
        self.assertIs(book_kinds().fits(("Empty",), "Book"), True)
        self.assertIs(book_kinds().fits(("Empty", 0), "Book"), False)

    def test_bytes_and_trees_mixed_up(self):
        kinds = book_kinds()
        self.assertIs(kinds.fits(("Bound", ("Blank", 1), 2, ("Empty",), 3), "Book"), True)
        self.assertIs(kinds.fits(("Bound", 1, 2, ("Empty",), 3), "Book"), False)
        self.assertIs(kinds.fits(("Bound", ("Blank", 1), ("Blank", 1), ("Empty",), 3), "Book"), False)
        self.assertIs(kinds.fits(("Bound", ("Blank", 1), 2, ("Empty",), ("Empty",)), "Book"), False)

    def test_tree_of_another_kind(self):
        kinds = book_kinds()
        self.assertIs(kinds.fits(("Empty",), "Page"), False)
        self.assertIs(kinds.fits(("Blank", 1), "Book"), False)
        self.assertIs(kinds.fits(("Blank", 1), "Page"), True)
        self.assertIs(kinds.fits(("Page", 1, ("Blank", 1)), "Page"), False)
        self.assertIs(kinds.fits(("Page", 1, ("Empty",)), "Page"), True)
        self.assertIs(kinds.fits(("Bound", ("Empty",), 2, ("Empty",), 3), "Book"), False)

    def test_depths(self):
        kinds = Kinds(CHAIN_ROWS)
        for levels in (1, 2, 39, 40):
            self.assertIs(kinds.fits(chain(levels), "Chain"), True, levels)
        for levels in (41, 42, 60):
            self.assertIs(kinds.fits(chain(levels), "Chain"), False, levels)

    def test_depth_counts_on_each_side(self):
        kinds = tree_kinds()
        for good, levels in ((True, 40), (False, 41)):
            left = right = ("Leaf", 1)
            for _ in range(levels - 1):
                left = ("Node", left, ("Leaf", 1))
                right = ("Node", ("Leaf", 1), right)
            self.assertIs(kinds.fits(left, "Tree"), good)
            self.assertIs(kinds.fits(right, "Tree"), good)

    def test_deep_values_at_wrong_places(self):
        kinds = tree_kinds()
        deep = ()
        for _ in range(58):
            deep = (deep,)
        self.assertIs(kinds.fits(deep, "Tree"), False)
        self.assertIs(kinds.fits((deep, 5), "Tree"), False)
        self.assertIs(kinds.fits(("Leaf", deep), "Tree"), False)


class NodeTest(unittest.TestCase):
    def test_node(self):
        kinds = tree_kinds()
        leaf = kinds.node("Leaf", 255)
        self.assertEqual(leaf, ("Leaf", 255))
        self.assertEqual(kinds.node("Node", leaf, ("Leaf", 0)), ("Node", ("Leaf", 255), ("Leaf", 0)))
        self.assertEqual(book_kinds().node("Empty"), ("Empty",))

    def test_bad_tree(self):
        kinds = tree_kinds()
        leaf = ("Leaf", 5)
        for parts in ((), (-1,), (256,), (True,), (False,), ("5",), (leaf,), (5, 5), ((),)):
            with self.assertRaises(BadTree):
                kinds.node("Leaf", *parts)
        for parts in ((), (leaf,), (leaf, leaf, leaf), (leaf, 5), (5, leaf), (leaf, ("Leaf", 256)), (leaf, "Leaf")):
            with self.assertRaises(BadTree):
                kinds.node("Node", *parts)
        with self.assertRaises(BadTree):
            book_kinds().node("Page", 5, ("Blank", 5))

    def test_depths(self):
        kinds = Kinds(CHAIN_ROWS)
        self.assertEqual(kinds.node("Link", chain(39)), chain(40))
        with self.assertRaises(BadTree):
            kinds.node("Link", chain(40))


def plain_row(kinds, tree):
    """Return the plain row as point 6 words it."""
    row = [kinds.tag(tree[0])]
    for part, value in zip(kinds.parts(tree[0]), tree[1:]):
        if kinds.inner(tree[0], part) == "byte":
            row.append(value)
        else:
            row.extend(plain_row(kinds, value))
    return row


def trees_up_to(kinds, kind, levels):
    """Return all trees of a kind with at most so many levels in which each byte is 0 or 1."""
    if levels == 0:
        return []
    found = []
    for maker in kinds.makers(kind):
        choices = []
        for part in kinds.parts(maker):
            inner = kinds.inner(maker, part)
            choices.append([0, 1] if inner == "byte" else trees_up_to(kinds, inner, levels - 1)[:40])
        found.extend((maker, *values) for values in itertools.product(*choices))
    return sorted(found, key=lambda tree: (len(plain_row(kinds, tree)), plain_row(kinds, tree)))


class LeastTest(unittest.TestCase):
    def test_shorter_row_of_a_later_maker(self):
        kinds = Kinds([("K", "Two", (("a", "byte"), ("b", "byte"))), ("K", "One", (("a", "byte"),))])
        self.assertEqual(kinds.least("K"), ("One", 0))

    def test_first_tag_among_equal_lengths(self):
        kinds = Kinds([("K", "Long", (("a", "byte"), ("b", "byte"))), ("K", "B", (("x", "byte"),)),
                       ("K", "A", (("x", "byte"),))])
        self.assertEqual(kinds.least("K"), ("B", 0))

    def test_a_node_without_bytes_beats_one_with_bytes(self):
        kinds = Kinds([("K", "A", (("x", "byte"), ("y", "byte"))), ("K", "B", (("t", "L", 1),)), ("L", "C", ())])
        self.assertEqual(kinds.least("K"), ("B", ("C",)))
        self.assertEqual(kinds.least("L"), ("C",))

    def test_a_tag_further_on(self):
        kinds = Kinds([("K", "A", (("x", "L", 1), ("y", "M", 1))), ("L", "B", (("n", "byte"), ("m", "byte"))),
                       ("L", "C", (("n", "byte"),)), ("L", "D", (("n", "byte"),)), ("M", "E", (("x", "M", 1),)),
                       ("M", "F", (("p", "byte"),))])
        self.assertEqual(kinds.least("K"), ("A", ("C", 0), ("F", 0)))

    def test_equal_lengths_of_a_tree_part_and_a_byte_part(self):
        # [0, 1] through the later maker of L, [1, 0] through the byte: the tag decides first.
        rows = [("K", "A", (("t", "L", 1),)), ("K", "B", (("n", "byte"),)), ("L", "Long", (("n", "byte"),)),
                ("L", "Short", ())]
        self.assertEqual(Kinds(rows).least("K"), ("A", ("Short",)))
        self.assertEqual(Kinds([rows[1], rows[0], rows[2], rows[3]]).least("K"), ("B", 0))

    def test_least_is_a_tree(self):
        kinds = book_kinds()
        self.assertEqual(kinds.least("Book"), ("Empty",))
        self.assertEqual(kinds.least("Page"), ("Blank", 0))

    def test_against_all_small_trees(self):
        chance = seeded(6)
        checked = 0
        while checked < 150:
            rows = random_rows(chance, chance.randint(1, 3), chance.randint(3, 6))
            try:
                kinds = Kinds(rows)
            except BadKinds:
                continue
            for kind in kinds.names:
                small = trees_up_to(kinds, kind, len(kinds.names))
                if len(small) < 4000:
                    self.assertEqual(kinds.least(kind), small[0], rows)
                    checked += 1


if __name__ == "__main__":
    unittest.main()
