"""Packed rows: trees as lists of bytes under a layout."""

from bytegrove.errors import BadRow, BadTree
from bytegrove.kinds import BYTE, MOST_LEVELS
from bytegrove.layouts import has_length, part_of


def pack(layout, tree):
    """Return the packed row of the tree (point 11)."""
    kinds = layout.kinds
    if not any([kinds.fits(tree, kind) for kind in kinds.names]):
        raise BadTree("the value is not a tree of any kind")
    return packed(layout, tree)


def packed(layout, tree):
    """Return the packed row of what is known to be a tree."""
    kinds = layout.kinds
    maker = tree[0]
    values = dict(zip(kinds.parts(maker), tree[1:]))
    row = [kinds.tag(maker)]
    for slot in layout[maker]:
        part = part_of(slot)
        if kinds.inner(maker, part) == BYTE:
            row.append(values[part])
        else:
            inner = packed(layout, values[part])
            if has_length(slot):
                row.extend([len(inner) // 256, len(inner) % 256])
            row.extend(inner)
    return row


def unpack(layout, kind, row):
    """Return the tree of the kind whose packed row this is (point 12)."""
    tree, end = read_node(layout, kind, row, 0, 1)
    if end < len(row):
        raise BadRow(end)
    return tree


def read_node(layout, kind, row, at, level):
    """Read a node whose tag stands at an index. Return its tree and the index behind it."""
    kinds = layout.kinds
    makers = kinds.makers(kind)
    # Where the row ends, the index of the missing tag is the length of the row.
    if at >= len(row) or row[at] >= len(makers) or level > MOST_LEVELS:
        raise BadRow(at)
    maker = makers[row[at]]
    values = {}
    end = at + 1
    for slot in layout[maker]:
        part = part_of(slot)
        inner = kinds.inner(maker, part)
        if inner == BYTE:
            values[part], end = read_byte(row, end)
        elif has_length(slot):
            values[part], end = read_measured(layout, inner, row, end, level + 1)
        else:
            values[part], end = read_node(layout, inner, row, end, level + 1)
    tree = [maker] + [values[part] for part in kinds.parts(maker)]
    return tuple(tree), end


def read_byte(row, at):
    """Read the byte of a byte part. Return it and the index behind it."""
    if at >= len(row):
        raise BadRow(at)
    return row[at], at + 1


def read_measured(layout, kind, row, at, level):
    """Read a measured part whose length stands at an index. Return its tree and the index behind it."""
    start = at + 2
    if start > len(row):
        raise BadRow(len(row))
    tree, end = read_node(layout, kind, row, start, level)
    if end - start != row[at] * 256 + row[at + 1]:
        raise BadRow(at)
    return tree, end
