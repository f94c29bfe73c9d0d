"""Points 11 and 12, with 1 and 31, for rows.py."""

import unittest

from bytegrove.errors import BadKinds, BadRow, BadTree, GroveError, NotThere
from bytegrove.kinds import Kinds
from bytegrove.layouts import Layout
from bytegrove.rows import pack, unpack
from tests.samples import CHAIN_ROWS, book_kinds, chain, random_layout, random_rows, random_tree, seeded, tree_kinds


def tree_layout(*slots):
    return Layout(tree_kinds(), {"Leaf": ("n",), "Node": slots})


def comb(nodes):
    """Return a full tree with so many nodes, at most 20 levels deep."""
    if nodes == 1:
        return ("Leaf", 9)
    half = (nodes - 1) // 2
    half = half if half % 2 else half + 1
    return ("Node", comb(half), comb(nodes - 1 - half))


def links(length):
    """Return a tree whose packed row has this length, at most 150."""
    tree = ("E%d" % ((length - 1) % 4), *[7] * ((length - 1) % 4))
    for _ in range((length - 1) // 4):
        tree = ("Link", 0, 255, 1, tree)
    return tree


class PackTest(unittest.TestCase):
    TREE = ("Node", ("Leaf", 5), ("Leaf", 7))

    def test_example_of_the_interface(self):
        self.assertEqual(pack(tree_layout("+left", "right"), self.TREE), [1, 0, 2, 0, 5, 0, 7])

    def test_order_of_the_spec(self):
        self.assertEqual(pack(tree_layout("left", "right"), self.TREE), [1, 0, 5, 0, 7])
        self.assertEqual(pack(tree_layout("right", "left"), self.TREE), [1, 0, 7, 0, 5])
        self.assertEqual(pack(tree_layout("right", "+left"), self.TREE), [1, 0, 7, 0, 2, 0, 5])
        self.assertEqual(pack(tree_layout("+right", "+left"), self.TREE), [1, 0, 2, 0, 7, 0, 2, 0, 5])

    def test_inner_nodes_are_packed_under_the_layout(self):
        tree = ("Node", self.TREE, ("Leaf", 1))
        self.assertEqual(pack(tree_layout("+left", "right"), tree), [1, 0, 7, 1, 0, 2, 0, 5, 0, 7, 0, 1])
        self.assertEqual(pack(tree_layout("right", "+left"), tree), [1, 0, 1, 0, 7, 1, 0, 7, 0, 2, 0, 5])

    def test_several_kinds(self):
        kinds = book_kinds()
        layout = Layout(kinds, {"Empty": (), "Page": ("+rest", "no"), "Bound": ("no", "+first", "rest", "mark"),
                                "Blank": ("no",)})
        tree = ("Bound", ("Page", 3, ("Empty",)), 4, ("Bound", ("Blank", 5), 6, ("Empty",), 7), 8)
        row = [1, 8, 0, 5, 0, 0, 1, 0, 3, 1, 7, 0, 2, 1, 5, 0, 6, 4]
        self.assertEqual(pack(layout, tree), row)
        self.assertEqual(unpack(layout, "Book", row), tree)
        self.assertEqual(pack(layout, ("Page", 3, ("Empty",))), [0, 0, 1, 0, 3])
        self.assertEqual(pack(layout, ("Empty",)), [0])

    def test_lengths_above_255(self):
        layout = tree_layout("+left", "+right")
        for nodes in (63, 65, 67, 85, 87, 1999, 3999):
            tree = ("Node", comb(nodes), ("Leaf", 1))
            left = pack(layout, tree[1])
            row = pack(layout, tree)
            self.assertEqual(row, [1, len(left) // 256, len(left) % 256] + left + [0, 2, 0, 1])
            self.assertEqual(unpack(layout, "Tree", row), tree)
        # 2000 leaves of two bytes and 1999 nodes of five.
        self.assertEqual(pack(layout, ("Node", comb(3999), ("Leaf", 1)))[1:3], [13995 // 256, 13995 % 256])

    def test_each_length_around_255(self):
        ends = [("E%d" % count, tuple((part, "byte") for part in "abc"[:count])) for count in range(4)]
        kinds = Kinds([("K", maker, parts) for maker, parts in ends]
                      + [("K", "Link", (("a", "byte"), ("b", "byte"), ("c", "byte"), ("t", "K", 1))),
                         ("K", "Two", (("t", "K", 1), ("u", "K", 1))), ("B", "Box", (("t", "K", 1),))])
        layout = Layout.plain(kinds) + "Box.t"
        for length in (1, 2, 3, 4, 150, 253, 254, 255, 256, 257, 258, 271):
            tree = links(length) if length <= 150 else ("Two", links(130), links(length - 131))
            row = pack(layout, ("Box", tree))
            self.assertEqual(row[1:3], [length // 256, length % 256])
            self.assertEqual(len(row), length + 3)
            self.assertEqual(unpack(layout, "B", row), ("Box", tree))

    def test_bad_trees(self):
        layout = tree_layout("+left", "right")
        for value in ((), 5, "Leaf", True, ("Leaf",), ("Leaf", 256), ("Leaf", -1), ("Leaf", True), ("Leaf", 5, 5),
                      ("Node", ("Leaf", 5)), ("Node", ("Leaf", 5), 5), ("Tree", 5), (("Leaf", 5),),
                      ("Node", ("Leaf", 5), ("Leaf", False)), ((), 5)):
            with self.assertRaises(BadTree):
                pack(layout, value)
        with self.assertRaises(BadTree):
            pack(Layout.plain(book_kinds()), ("Page", 1, ("Blank", 1)))

    def test_depths(self):
        layout = Layout.plain(Kinds(CHAIN_ROWS))
        self.assertEqual(pack(layout, chain(40)), [1] * 39 + [0])
        with self.assertRaises(BadTree):
            pack(layout, chain(41))

    def test_new_list_each_time(self):
        layout = tree_layout("+left", "right")
        row = pack(layout, self.TREE)
        row.clear()
        again = pack(layout, self.TREE)
        self.assertEqual(again, [1, 0, 2, 0, 5, 0, 7])
        layout["Node"] = ("right", "left")
        self.assertEqual(again, [1, 0, 2, 0, 5, 0, 7])
        self.assertEqual(pack(layout, self.TREE), [1, 0, 7, 0, 5])


class UnpackTest(unittest.TestCase):
    def check_bad(self, layout, kind, row, at):
        before = list(row)
        with self.assertRaises(BadRow) as caught:
            unpack(layout, kind, row)
        self.assertEqual(caught.exception.at, at, row)
        self.assertEqual(row, before)

    def test_example(self):
        row = [1, 0, 2, 0, 5, 0, 7]
        self.assertEqual(unpack(tree_layout("+left", "right"), "Tree", row), ("Node", ("Leaf", 5), ("Leaf", 7)))
        self.assertEqual(row, [1, 0, 2, 0, 5, 0, 7])

    def test_parts_in_the_order_of_the_table(self):
        tree = unpack(tree_layout("right", "left"), "Tree", [1, 0, 7, 0, 5])
        self.assertEqual(tree, ("Node", ("Leaf", 5), ("Leaf", 7)))
        self.assertIs(tree.__class__, tuple)

    def test_empty_row(self):
        self.check_bad(tree_layout("left", "right"), "Tree", [], 0)
        self.check_bad(Layout.plain(Kinds(CHAIN_ROWS)), "Chain", [], 0)

    def test_row_that_ends_early(self):
        for slots in (("+left", "right"), ("left", "right"), ("+right", "+left")):
            layout = tree_layout(*slots)
            row = pack(layout, ("Node", ("Leaf", 5), ("Node", ("Leaf", 6), ("Leaf", 7))))
            for end in range(len(row)):
                self.check_bad(layout, "Tree", row[:end], end)

    def test_row_that_ends_in_a_length(self):
        layout = tree_layout("+left", "right")
        self.check_bad(layout, "Tree", [1], 1)
        self.check_bad(layout, "Tree", [1, 0], 2)
        self.check_bad(layout, "Tree", [1, 0, 2], 3)

    def test_tags(self):
        layout = tree_layout("+left", "right")
        self.check_bad(layout, "Tree", [2], 0)
        self.check_bad(layout, "Tree", [255, 1, 2, 3], 0)
        self.check_bad(layout, "Tree", [1, 0, 2, 2, 5, 0, 7], 3)
        self.check_bad(layout, "Tree", [1, 0, 2, 0, 5, 2, 7], 5)
        self.assertEqual(unpack(layout, "Tree", [0, 255]), ("Leaf", 255))

    def test_tags_count_in_their_kind(self):
        layout = Layout.plain(Kinds([("A", "A0", (("b", "B", 1),)), ("B", "B0", ()), ("A", "A1", ()), ("A", "A2", ())]))
        self.assertEqual(unpack(layout, "A", [0, 0]), ("A0", ("B0",)))
        self.assertEqual(unpack(layout, "A", [2]), ("A2",))
        self.check_bad(layout, "A", [3], 0)
        self.check_bad(layout, "A", [0, 1], 1)

    def test_stored_lengths(self):
        layout = tree_layout("+left", "right")
        for high, low in ((0, 1), (0, 3), (0, 0), (1, 2), (255, 255)):
            self.check_bad(layout, "Tree", [1, high, low, 0, 5, 0, 7], 1)
        self.check_bad(tree_layout("left", "+right"), "Tree", [1, 0, 5, 0, 3, 0, 7], 3)

    def test_stored_length_is_checked_as_soon_as_the_part_is_read(self):
        layout = tree_layout("+left", "right")
        self.check_bad(layout, "Tree", [1, 0, 3, 0, 5], 1)
        self.check_bad(layout, "Tree", [1, 0, 3, 0, 5, 9, 9], 1)
        # Not before: what fails inside of the part counts first.
        self.check_bad(layout, "Tree", [1, 0, 3, 0], 4)
        self.check_bad(layout, "Tree", [1, 0, 3, 7, 5], 3)
        # The length of an inner part is checked before that of the outer one.
        self.check_bad(layout, "Tree", [1, 9, 9, 1, 0, 9, 0, 5, 0, 7, 0, 7], 4)
        self.check_bad(layout, "Tree", [1, 9, 9, 1, 0, 2, 0, 5, 0, 7, 0, 7], 1)

    def test_stored_length_does_not_limit_the_reading(self):
        layout = tree_layout("+left", "right")
        self.check_bad(layout, "Tree", [1, 0, 0, 1, 0, 2, 0, 5, 0, 7, 0, 7], 1)
        self.check_bad(layout, "Tree", [1, 0, 1, 0], 4)

    def test_bytes_behind_the_tree(self):
        layout = tree_layout("+left", "right")
        self.check_bad(layout, "Tree", [0, 5, 0], 2)
        self.check_bad(layout, "Tree", [0, 5, 0, 5, 9, 9], 2)
        self.check_bad(layout, "Tree", [1, 0, 2, 0, 5, 0, 7, 1], 7)
        self.check_bad(layout, "Tree", [1, 0, 2, 0, 5, 0, 7] * 2, 7)

    def test_levels(self):
        plain = Layout.plain(Kinds(CHAIN_ROWS))
        self.assertEqual(unpack(plain, "Chain", [1] * 39 + [0]), chain(40))
        self.check_bad(plain, "Chain", [1] * 40 + [0], 40)
        self.check_bad(plain, "Chain", [1] * 60, 40)
        self.check_bad(plain, "Chain", [1] * 40, 40)
        self.check_bad(plain, "Chain", [1] * 39, 39)
        self.check_bad(plain, "Chain", [1] * 39 + [0, 0], 40)
        self.check_bad(plain, "Chain", [1] * 39 + [2, 0], 39)

    def test_levels_with_lengths(self):
        layout = Layout.measured(Kinds(CHAIN_ROWS))
        row = pack(layout, chain(40))
        self.assertEqual(len(row), 118)
        self.assertEqual(unpack(layout, "Chain", row), chain(40))
        deeper = [1, 0, 118] + row
        self.check_bad(layout, "Chain", deeper, 120)

    def test_levels_on_the_second_part(self):
        layout = tree_layout("left", "right")
        good = [1, 0, 9] * 39 + [0, 7]
        self.assertEqual(pack(layout, unpack(layout, "Tree", good)), good)
        # The first part of the node at level 40 is one level too deep already.
        self.check_bad(layout, "Tree", [1, 0, 9] * 40 + [0, 7], 118)
        self.check_bad(layout, "Tree", [1, 0, 9] * 39 + [1, 0, 7, 0, 7], 118)

    def test_unknown_kind(self):
        layout = tree_layout("left", "right")
        for name in ("Leaf", "", "tree", "byte"):
            for row in ([0, 5], [], [9]):
                with self.assertRaises(NotThere) as caught:
                    unpack(layout, name, row)
                self.assertEqual(caught.exception.name, name)


def failure(layout, kind, row, at, level):
    """Read a node as point 12 words it. Return the tree and the index behind it, or the index of the failure."""
    kinds = layout.kinds
    if at == len(row):
        return None, len(row)
    if row[at] >= len(kinds.makers(kind)) or level > 40:
        return None, at
    maker = kinds.makers(kind)[row[at]]
    at += 1
    values = {}
    for slot in layout[maker]:
        part = slot.replace("+", "")
        inner = kinds.inner(maker, part)
        if inner == "byte":
            if at == len(row):
                return None, len(row)
            values[part] = row[at]
            at += 1
            continue
        length = None
        if slot != part:
            if len(row) - at < 2:
                return None, len(row)
            length = row[at] * 256 + row[at + 1]
            at += 2
        tree, end = failure(layout, inner, row, at, level + 1)
        if tree is None:
            return None, end
        if length is not None and length != end - at:
            return None, at - 2
        values[part] = tree
        at = end
    return (maker, *(values[part] for part in kinds.parts(maker))), at


class BothWaysTest(unittest.TestCase):
    def cases(self, number, wanted):
        chance = seeded(number)
        made = 0
        while made < wanted:
            try:
                kinds = Kinds(random_rows(chance, chance.randint(1, 4), chance.randint(4, 8)))
            except BadKinds:
                continue
            kind = chance.choice(kinds.names)
            yield chance, random_layout(chance, kinds), kind, random_tree(chance, kinds, kind, chance.randint(0, 4))
            made += 1

    def test_unpack_undoes_pack(self):
        for _, layout, kind, tree in self.cases(11, 300):
            self.assertTrue(layout.kinds.fits(tree, kind))
            row = pack(layout, tree)
            self.assertTrue(all(0 <= byte <= 255 for byte in row))
            self.assertEqual(unpack(layout, kind, row), tree)

    def test_damaged_rows(self):
        failed = 0
        for chance, layout, kind, tree in self.cases(12, 1500):
            row = pack(layout, tree)
            for _ in range(chance.randint(1, 2)):
                at = chance.randrange(len(row) + 1)
                row[at:at + chance.randint(0, 2)] = [chance.randint(0, 5)] * chance.randint(0, 2)
            expected, end = failure(layout, kind, row, 0, 1)
            try:
                self.assertEqual(unpack(layout, kind, row), expected)
            except BadRow as error:
                failed += 1
                self.assertEqual(error.at, end)
                self.assertTrue(expected is None or end < len(row))
                self.assertIsInstance(error, GroveError)
        self.assertGreater(failed, 300)


if __name__ == "__main__":
    unittest.main()
