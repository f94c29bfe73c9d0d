"""The least trees on which a run gets stuck or does not end (points 6 and 22).

A weighed tree is the triple of the length of its plain row, this row and the tree. Weighed trees of one kind
compare as their trees do.
"""

from bytegrove.kinds import BYTE
from bytegrove.passages import Passage

STUCK = "stuck"
# The run gets stuck, or the first call does not end.
UNENDED = "unended"


def weighed_node(kinds, maker, values):
    """Return the weighed tree over the weighed values of its parts."""
    row = [kinds.tag(maker)]
    tree = [maker]
    for part in kinds.parts(maker):
        row.extend(values[part][1])
        tree.append(values[part][2])
    return len(row), row, tuple(tree)


def weighed(kinds, tree):
    """Return the weighed tree of a tree."""
    maker = tree[0]
    values = {}
    for part, value in zip(kinds.parts(maker), tree[1:]):
        values[part] = weighed_byte(value) if kinds.inner(maker, part) == BYTE else weighed(kinds, value)
    return weighed_node(kinds, maker, values)


def weighed_byte(byte):
    """Return the weighed value of a byte part."""
    return 1, [byte], byte


def ways_of_passage(passage, word):
    """Return the ways in which a path leads to the word.

    A way is the pair of a part and of what the value of this part does: a called function and a word. The way
    (None, None) needs nothing of the parts.
    """
    if not passage.goes or (word == UNENDED and not passage.whole):
        return [(None, None)]
    waiting = passage.held if word == STUCK else passage.loose
    stuck = [(part, (called, STUCK)) for part, called in passage.calls]
    return stuck + [(part, (called, UNENDED)) for part, called in waiting]


def ways_to(functions, layout, name, word):
    """Return the ways to the word for a function: the maker, the least bytes of the path, and the way of the path."""
    kinds = functions.kinds
    found = []
    for maker in kinds.makers(functions.takes(name)):
        for path in functions.paths(name, maker):
            passage = Passage(kinds, maker, layout[maker], path)
            lows = {part: low for part, called, low in path}
            found.extend([(maker, lows, part, goal) for part, goal in ways_of_passage(passage, word)])
    return found


def least_along(kinds, least, found, way):
    """Return the least weighed tree along a way, or None if no value of its part is found yet."""
    maker, lows, chosen, goal = way
    values = {}
    for part in kinds.parts(maker):
        inner = kinds.inner(maker, part)
        if inner == BYTE:
            values[part] = weighed_byte(lows.get(part, 0))
        elif part != chosen:
            values[part] = least[inner]
        elif goal in found:
            values[part] = found[goal]
        else:
            return None
    return weighed_node(kinds, maker, values)


def least_tree(functions, layout, name, word):
    """Return the least tree on which the run of a function has the word, or None."""
    kinds = functions.kinds
    least = {kind: weighed(kinds, kinds.least(kind)) for kind in kinds.names}
    ways = [((reached, goal), way) for reached in functions.reached(name) for goal in (STUCK, UNENDED)
            for way in ways_to(functions, layout, reached, goal)]
    found = {}
    # The parts of a way do not depend on each other: the least values of the parts make the least tree.
    # A smaller tree for one goal may make that for another one smaller: go on until none changes.
    changing = True
    while changing:
        changing = False
        for goal, way in ways:
            tree = least_along(kinds, least, found, way)
            if tree is not None and (goal not in found or tree < found[goal]):
                found[goal] = tree
                changing = True
    return found[(name, word)][2] if (name, word) in found else None
