"""Kinds tables: which kinds, makers and parts there are, and the trees that are built with them."""

from bytegrove.errors import BadKinds, BadTree, NotThere

BYTE = "byte"
MOST_LETTERS = 24
MOST_PARTS = 4
MOST_PRICE = 1000
MOST_ROWS = 12
MOST_KINDS = 4
MOST_LEVELS = 40


def is_name(value):
    """Tell whether the value is a name (point 2)."""
    if not isinstance(value, str) or not 1 <= len(value) <= MOST_LETTERS:
        return False
    return value.isascii() and value.isalnum() and value[0].isalpha()


def is_kind_name(value):
    """Tell whether the value is a name that a kind may have."""
    return is_name(value) and value != BYTE


def is_number(value, low, high):
    """Tell whether the value is an integer from low to high."""
    # Python counts True and False among the integers, the document does not
    return isinstance(value, int) and not isinstance(value, bool) and low <= value <= high


def is_part(value):
    """Tell whether the value has the form of a byte part or of a tree part (point 3)."""
    if not isinstance(value, tuple) or len(value) not in (2, 3) or not is_name(value[0]):
        return False
    if len(value) == 2:
        return value[1] == BYTE
    return is_kind_name(value[1]) and is_number(value[2], 1, MOST_PRICE)


def are_parts(value):
    """Tell whether the value can be the parts of one maker."""
    if not isinstance(value, tuple) or len(value) > MOST_PARTS:
        return False
    for part in value:
        if not is_part(part):
            return False
    return len({part[0] for part in value}) == len(value)


def check_each_row(rows):
    """Make the first pass of point 4: each row by itself, after the rows in front of it."""
    kinds = {}
    makers = {}
    for at, (kind, maker, parts) in enumerate(rows):
        if not is_kind_name(kind) or not is_name(maker) or not are_parts(parts):
            raise BadKinds(at)
        kinds[kind] = True
        if maker in makers or at >= MOST_ROWS or len(kinds) > MOST_KINDS:
            raise BadKinds(at)
        makers[maker] = True


def check_inner_kinds(rows):
    """Make the second pass of point 4: the kinds of the tree parts."""
    known = [kind for kind, maker, parts in rows]
    for at, (kind, maker, parts) in enumerate(rows):
        for part in parts:
            if part[1] != BYTE and part[1] not in known:
                raise BadKinds(at)


def check_finite(rows, least):
    """Make the third pass of point 4: each kind has a least tree if it has a finite one."""
    for at, (kind, maker, parts) in enumerate(rows):
        if kind not in least:
            raise BadKinds(at)


def makers_by_kind(rows):
    """Return a dict from each kind to its makers, all in the order of the rows."""
    makers = {}
    for kind, maker, parts in rows:
        makers[kind] = makers.get(kind, ()) + (maker,)
    return makers


def holdings(parts):
    """Return a dict from the name of each part to what it holds and to its price."""
    return {part[0]: part[1:] if len(part) == 3 else (BYTE, 0) for part in parts}


def least_node(tag, maker, parts, least):
    """Return the length, the plain row and the tree of a node over least trees, or None if one is missing."""
    row = [tag]
    tree = [maker]
    for part in parts:
        if part[1] == BYTE:
            row.append(0)
            tree.append(0)
        elif part[1] in least:
            row.extend(least[part[1]][1])
            tree.append(least[part[1]][2])
        else:
            return None
    return len(row), row, tuple(tree)


def least_trees(rows):
    """Return a dict from each kind with a finite tree to the length, the plain row and the tree of its least one."""
    makers = makers_by_kind(rows)
    least = {}
    # No kind stands inside a tree of its own kind in a least tree: so it has at most
    # as many levels as there are kinds, and each round finds those of one more level.
    for _ in makers:
        for kind, maker, parts in rows:
            node = least_node(makers[kind].index(maker), maker, parts, least)
            if node is not None and (kind not in least or node[:2] < least[kind][:2]):
                least[kind] = node
    return least


class Kinds:
    """A kinds table (points 3 to 6)."""

    def __init__(self, rows):
        if len(rows) == 0:
            raise BadKinds(0)
        check_each_row(rows)
        check_inner_kinds(rows)
        least = least_trees(rows)
        check_finite(rows, least)
        self._makers = makers_by_kind(rows)
        self._kinds = {maker: kind for kind, maker, parts in rows}
        self._parts = {maker: holdings(parts) for kind, maker, parts in rows}
        self._least = {kind: least[kind][2] for kind in self._makers}
        self.names = tuple(self._makers)
        self.order = tuple(self._kinds)

    def __contains__(self, x):
        return x in self._kinds

    def makers(self, kind):
        """Return the makers of the kind in the order of their tags."""
        if kind not in self._makers:
            raise NotThere(kind)
        return self._makers[kind]

    def kind_of(self, maker):
        """Return the kind of the maker."""
        if maker not in self._kinds:
            raise NotThere(maker)
        return self._kinds[maker]

    def tag(self, maker):
        """Return the tag of the maker."""
        return self.makers(self.kind_of(maker)).index(maker)

    def parts(self, maker):
        """Return the names of the parts of the maker in order."""
        if maker not in self._parts:
            raise NotThere(maker)
        return tuple(self._parts[maker])

    def inner(self, maker, part):
        """Return "byte" for a byte part, and the kind of a tree part."""
        return self._holding(maker, part)[0]

    def price_of(self, maker, part):
        """Return the price of a tree part, and 0 for a byte part."""
        return self._holding(maker, part)[1]

    def _holding(self, maker, part):
        if maker not in self._parts:
            raise NotThere(maker)
        if part not in self._parts[maker]:
            raise NotThere(part)
        return self._parts[maker][part]

    def fits(self, tree, kind):
        """Tell whether the value is a tree of the kind (point 5)."""
        if kind not in self._makers:
            raise NotThere(kind)
        return self._tree_fits(tree, kind, MOST_LEVELS)

    def _tree_fits(self, tree, kind, levels):
        """Tell whether the value is a tree of the kind with at most so many levels."""
        if levels == 0 or not isinstance(tree, tuple) or len(tree) == 0:
            return False
        # Looked for in a tuple: the first item may be any value, also a deep tuple.
        if tree[0] not in self._makers[kind]:
            return False
        parts = self._parts[tree[0]]
        if len(tree) != len(parts) + 1:
            return False
        for part, value in zip(parts, tree[1:]):
            if not self._value_fits(value, parts[part][0], levels - 1):
                return False
        return True

    def _value_fits(self, value, inner, levels):
        """Tell whether the value can be that of a part which holds a byte or a tree of a kind."""
        if inner == BYTE:
            return is_number(value, 0, 255)
        return self._tree_fits(value, inner, levels)

    def node(self, maker, *parts):
        """Return the tree with this maker and these values of its parts."""
        kind = self.kind_of(maker)
        tree = (maker, *parts)
        if not self.fits(tree, kind):
            raise BadTree(f"these parts of {maker} make no tree")
        return tree

    def least(self, kind):
        """Return the least tree of the kind (point 6)."""
        if kind not in self._least:
            raise NotThere(kind)
        return self._least[kind]
