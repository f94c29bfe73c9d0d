"""What a path of a body needs under a spec so that the cursor gets through (point 21)."""

from bytegrove.layouts import part_of, tree_parts


def cursor_gets_there(stored, bare, asked):
    """Tell whether the asked parts come in the stored order and no bare part stands unasked in front of one."""
    start = 0
    for part in asked:
        at = stored.index(part)
        if at < start:
            return False
        for passed in stored[start:at]:
            if passed in bare:
                return False
        start = at + 1
    return True


class Passage:
    """A path under the spec of its maker.

    `goes` tells whether the cursor gets to each asked part if the calls before it allow it. `calls`, `loose` and
    `held` are pairs of a part and the function that is called on it: all of them, those on parts without a length,
    and those of the latter behind which the path asks another part. `whole` tells whether each part without a
    length is asked.
    """

    def __init__(self, kinds, maker, spec, path):
        inside = tree_parts(kinds, maker)
        # The slot of a tree part that is not measured is the name of the part.
        bare = [slot for slot in spec if slot in inside]
        asked = [part for part, called, low in path]
        self.goes = cursor_gets_there([part_of(slot) for slot in spec], bare, asked)
        self.calls = [(part, called) for part, called, low in path if part in inside]
        self.loose = [(part, called) for part, called in self.calls if part in bare]
        self.held = [(part, called) for part, called, low in path[:-1] if part in bare]
        self.whole = all([part in asked for part in bare])


def passages_of(functions, name, maker, spec):
    """Return the passages of all paths of the body of a function for a maker, under a spec."""
    return [Passage(functions.kinds, maker, spec, path) for path in functions.paths(name, maker)]
