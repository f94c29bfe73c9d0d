"""Tables and trees that several tests use."""

import random

from bytegrove.bodies import Functions
from bytegrove.errors import BadKinds
from bytegrove.kinds import Kinds
from bytegrove.layouts import Layout

TREE_ROWS = [
    ("Tree", "Leaf", (("n", "byte"),)),
    ("Tree", "Node", (("left", "Tree", 2), ("right", "Tree", 3))),
]

# Two kinds that hold each other, one name for a kind and a maker, one part name in several makers.
BOOK_ROWS = [
    ("Book", "Empty", ()),
    ("Page", "Page", (("no", "byte"), ("rest", "Book", 7))),
    ("Book", "Bound", (("first", "Page", 1000), ("mark", "byte"), ("rest", "Book", 1), ("no", "byte"))),
    ("Page", "Blank", (("no", "byte"),)),
]

CHAIN_ROWS = [
    ("Chain", "End", ()),
    ("Chain", "Link", (("next", "Chain", 1),)),
]


def tree_kinds():
    return Kinds(TREE_ROWS)


def book_kinds():
    return Kinds(BOOK_ROWS)


def chain(levels):
    """Return a chain with so many levels."""
    tree = ("End",)
    for _ in range(levels - 1):
        tree = ("Link", tree)
    return tree


def random_rows(chance, kind_count, maker_count):
    """Return rows that pass the first two passes of point 4, not always the third."""
    names = ["K%d" % at for at in range(kind_count)]
    rows = []
    for at in range(maker_count):
        kind = names[at] if at < kind_count else chance.choice(names)
        parts = []
        for part in chance.sample("abcd", chance.randint(0, 4)):
            if chance.random() < 0.4:
                parts.append((part, "byte"))
            else:
                parts.append((part, chance.choice(names), chance.randint(1, 1000)))
        rows.append((kind, "M%d" % at, tuple(parts)))
    return rows


def random_layout(chance, kinds):
    specs = {}
    for maker in kinds.order:
        slots = []
        for part in kinds.parts(maker):
            is_measured = kinds.inner(maker, part) != "byte" and chance.random() < 0.5
            slots.append("+" + part if is_measured else part)
        chance.shuffle(slots)
        specs[maker] = tuple(slots)
    return Layout(kinds, specs)


def random_tree(chance, kinds, kind, levels):
    """Return a tree that is random in its first levels and least below."""
    if levels == 0:
        return kinds.least(kind)
    maker = chance.choice(kinds.makers(kind))
    values = []
    for part in kinds.parts(maker):
        inner = kinds.inner(maker, part)
        if inner == "byte":
            values.append(chance.choice([0, 1, 2, 255, chance.randint(0, 255)]))
        else:
            values.append(random_tree(chance, kinds, inner, levels - 1))
    return (maker, *values)


def seeded(number):
    return random.Random(number)


# A node with two bytes and two trees, and a second kind inside: all forms of steps have a place here.
WOOD_ROWS = [
    ("Wood", "Leaf", (("n", "byte"),)),
    ("Wood", "Node", (("a", "byte"), ("b", "byte"), ("left", "Wood", 2), ("right", "Wood", 3))),
    ("Box", "Full", (("wood", "Wood", 5), ("next", "Box", 7))),
    ("Box", "Void", ()),
]


def wood_kinds():
    return Kinds(WOOD_ROWS)


def last_functions(kinds):
    """Return the table of the examples in the interface: the byte of the last leaf."""
    bodies = {"Leaf": (("read", "n"),), "Node": (("call", "last", "right"),)}
    return Functions(kinds, [("last", "Tree", "sum", bodies)])


def greatest_kinds():
    """Return a table with 12 makers of four kinds with four parts each."""
    names = ["A", "B", "C", "D"]
    rows = []
    for at, kind in enumerate(names):
        own, following, opposite = names[at], names[(at + 1) % 4], names[(at + 2) % 4]
        rows.append((kind, kind + "0", tuple((part, "byte") for part in "pqrs")))
        rows.append((kind, kind + "1", (("p", "byte"), ("q", following, 10 + at), ("r", own, 1000),
                                        ("s", opposite, 1 + at))))
        rows.append((kind, kind + "2", (("p", "byte"), ("q", own, 500 - at), ("r", "byte"), ("s", following, 7))))
    return Kinds(rows)


def padded(steps, say):
    """Return 12 steps: the given ones, with says in front of the last one."""
    return tuple(steps[:-1]) + (("say", say),) * (12 - len(steps)) + tuple(steps[-1:])


def branching(parts, bound):
    """Return a body of 12 steps that branches on each of the byte parts."""
    if len(parts) == 1:
        return padded([("read", parts[0])], 1000)
    inner = branching(parts[1:], bound + 1)
    return padded([("if", parts[0], bound, inner, inner)], bound)


def greatest_rows():
    """Return the rows of six functions over the greatest kinds."""
    takes = {"fa": "A", "fb": "B", "fc": "C", "fd": "D", "ga": "A", "gb": "B"}
    named = {kind: [name for name in takes if takes[name] == kind] for kind in "ABCD"}
    rows = []
    for at, (name, kind) in enumerate(takes.items()):
        own, following, opposite = ("ABCD"["ABCD".index(kind) - back] for back in (0, 3, 2))
        skips = name in ("ga", "gb")
        one = [("call", named[following][-1], "q"), ("call", name, "r"), ("call", named[opposite][0], "s")]
        branch = ("if", "p", 100 + at, padded(one[1:], 3), padded(one[2:], 5))
        two = [("read", "p"), ("call", name, "q"), ("if", "r", 9, (("call", named[following][0], "s"),), ())]
        bodies = {own + "0": branching("pqrs", 60 * at % 250 + 1),
                  own + "1": padded([branch] if skips else one[:1] + [branch], 4),
                  own + "2": padded(two, 1)}
        rows.append((name, kind, "max" if skips else "sum", bodies))
    return rows


def greatest_functions(kinds):
    return Functions(kinds, greatest_rows())


def random_body(chance, kinds, maker, takes, parts):
    """Return a body that asks some of the parts in this order."""
    steps = []
    for at, part in enumerate(parts):
        inner = kinds.inner(maker, part)
        if chance.random() < 0.25:
            steps.append(("say", chance.randint(0, 1000)))
        if inner != "byte":
            fitting = [name for name in takes if takes[name] == inner]
            if fitting and chance.random() < 0.8:
                steps.append(("call", chance.choice(fitting), part))
        elif chance.random() < 0.4:
            bodies = [random_body(chance, kinds, maker, takes, parts[at + 1:]) for _ in range(2)]
            return (*steps, ("if", part, chance.choice([1, 2, 128, 255]), *bodies))
        elif chance.random() < 0.7:
            steps.append(("read", part))
    return tuple(steps)


def random_functions(chance, kinds, count, orders):
    """Return a table of so many functions. `orders` may have for each maker the order in which parts are asked."""
    takes = {"f%d" % at: chance.choice(kinds.names) for at in range(count)}
    rows = []
    for name, kind in takes.items():
        bodies = {}
        for maker in kinds.makers(kind):
            order = list(orders.get(maker, kinds.parts(maker)))
            if chance.random() < 0.1:
                chance.shuffle(order)
            bodies[maker] = random_body(chance, kinds, maker, takes, order)
        rows.append((name, kind, chance.choice(["sum", "max"]), bodies))
    return Functions(kinds, rows)


def random_table(chance, kind_count, maker_count):
    """Return random kinds."""
    while True:
        try:
            return Kinds(random_rows(chance, kind_count, maker_count))
        except BadKinds:
            pass


def random_case(chance, kind_count=2, maker_count=4, count=3):
    """Return random functions and a layout of which some functions follow the order."""
    kinds = random_table(chance, chance.randint(1, kind_count), chance.randint(2, maker_count))
    layout = random_layout(chance, kinds)
    orders = {maker: [slot.lstrip("+") for slot in spec] for maker, spec in layout}
    return random_functions(chance, kinds, chance.randint(1, count), orders), layout
