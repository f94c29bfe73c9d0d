"""Tables and trees that several tests use."""

import random

from bytegrove.kinds import Kinds
from bytegrove.layouts import Layout

TREE_ROWS = [
    ("Tree", "Leaf", (("n", "byte"),)),
    ("Tree", "Node", (("left", "Tree", 2), ("right", "Tree", 3))),
]

# Two kinds that hold each other, one name for a kind and a maker, one part name in several makers.
BOOK_ROWS = [
    ("Book", "Empty", ()),
    ("Page", "Page", (("no", "byte"), ("rest", "Book", 7))),
    ("Book", "Bound", (("first", "Page", 1000), ("mark", "byte"), ("rest", "Book", 1), ("no", "byte"))),
    ("Page", "Blank", (("no", "byte"),)),
]

CHAIN_ROWS = [
    ("Chain", "End", ()),
    ("Chain", "Link", (("next", "Chain", 1),)),
]


def tree_kinds():
    return Kinds(TREE_ROWS)


def book_kinds():
    return Kinds(BOOK_ROWS)


def chain(levels):
    """Return a chain with so many levels."""
    tree = ("End",)
    for _ in range(levels - 1):
        tree = ("Link", tree)
    return tree


def random_rows(chance, kind_count, maker_count):
    """Return rows that pass the first two passes of point 4, not always the third."""
    names = ["K%d" % at for at in range(kind_count)]
    rows = []
    for at in range(maker_count):
        kind = names[at] if at < kind_count else chance.choice(names)
        parts = []
        for part in chance.sample("abcd", chance.randint(0, 4)):
            if chance.random() < 0.4:
                parts.append((part, "byte"))
            else:
                parts.append((part, chance.choice(names), chance.randint(1, 1000)))
        rows.append((kind, "M%d" % at, tuple(parts)))
    return rows


def random_layout(chance, kinds):
    specs = {}
    for maker in kinds.order:
        slots = []
        for part in kinds.parts(maker):
            is_measured = kinds.inner(maker, part) != "byte" and chance.random() < 0.5
            slots.append("+" + part if is_measured else part)
        chance.shuffle(slots)
        specs[maker] = tuple(slots)
    return Layout(kinds, specs)


def random_tree(chance, kinds, kind, levels):
    """Return a tree that is random in its first levels and least below."""
    if levels == 0:
        return kinds.least(kind)
    maker = chance.choice(kinds.makers(kind))
    values = []
    for part in kinds.parts(maker):
        inner = kinds.inner(maker, part)
        if inner == "byte":
            values.append(chance.choice([0, 1, 2, 255, chance.randint(0, 255)]))
        else:
            values.append(random_tree(chance, kinds, inner, levels - 1))
    return (maker, *values)


def seeded(number):
    return random.Random(number)
