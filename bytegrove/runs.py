"""Runs of functions on trees and on packed rows."""

from bytegrove.errors import Backward, BadTree, Stuck, Unknown
from bytegrove.kinds import BYTE
from bytegrove.layouts import has_length, part_of


def folded(fold, taken):
    """Return the answer of a call that took these numbers."""
    if len(taken) == 0:
        return 0
    return max(taken) if fold == "max" else sum(taken)


def answer_of(functions, name, node):
    """Call a function on a node of a tree or of a row. Return the answer (point 17)."""
    taken = []
    steps = functions.body(name, node.maker)
    while len(steps) > 0:
        following = ()
        for step in steps:
            if step[0] == "say":
                node.prints.append(step[1])
                taken.append(step[1])
            elif step[0] == "read":
                byte = node.byte_of(step[1])
                node.prints.append(byte)
                taken.append(byte)
            elif step[0] == "call":
                taken.append(node.answer(step[1], step[2]))
            else:
                following = step[3] if node.byte_of(step[1]) < step[2] else step[4]
        steps = following
    return folded(functions.fold(name), taken)


class TreeNode:
    """A node of a tree, as the one call that runs on it sees it."""

    def __init__(self, functions, tree, prints):
        self.maker = tree[0]
        self.prints = prints
        self._functions = functions
        self._values = dict(zip(functions.kinds.parts(self.maker), tree[1:]))

    def byte_of(self, part):
        """Return the value of a byte part."""
        return self._values[part]

    def answer(self, name, part):
        """Call a function on a tree part. Return its answer."""
        return answer_of(self._functions, name, TreeNode(self._functions, self._values[part], self.prints))


def run_tree(functions, name, tree):
    """Return the answer and the prints of a function on a tree (point 17)."""
    if not functions.kinds.fits(tree, functions.takes(name)):
        raise BadTree(f"the value is not a tree that {name} takes")
    prints = []
    answer = answer_of(functions, name, TreeNode(functions, tree, prints))
    return answer, prints


class Tape:
    """A row with its cursor, and what the run on it has printed and done so far."""

    def __init__(self, row):
        self.at = 0
        self.prints = []
        self.log = []
        self._row = row

    def read_tag(self, makers):
        """Read the tag of a node. Return its maker."""
        maker = makers[self._row[self.at]]
        self.log.append(("tag", self.at, maker))
        self.at += 1
        return maker

    def read_byte(self):
        """Read a byte part. Return its value."""
        byte = self._row[self.at]
        self.log.append(("byte", self.at, byte))
        self.at += 1
        return byte

    def read_end(self):
        """Read the length of the part that follows. Return the index of its end."""
        length = self._row[self.at] * 256 + self._row[self.at + 1]
        self.log.append(("length", self.at, length))
        self.at += 2
        return self.at + length

    def jump(self, to):
        """Move the cursor without reading."""
        self.log.append(("jump", self.at, to))
        self.at = to


class RowNode:
    """The node whose tag is at the cursor, as the one call that runs on it sees it (point 18)."""

    def __init__(self, functions, layout, name, tape):
        kinds = functions.kinds
        self.maker = tape.read_tag(kinds.makers(functions.takes(name)))
        self.prints = tape.prints
        self._functions = functions
        self._layout = layout
        self._name = name
        self._tape = tape
        self._spec = layout[self.maker]
        self._stored = [part_of(slot) for slot in self._spec]
        self._bytes = [part for part in self._stored if kinds.inner(self.maker, part) == BYTE]
        # All parts in front of this slot are passed or asked already.
        self._slot = 0
        # The part without a length whose call did not end: it hides where the next part begins.
        self._blocker = None

    def byte_of(self, part):
        """Read a byte part. Return its value."""
        self._reach(part)
        self._slot += 1
        return self._tape.read_byte()

    def answer(self, name, part):
        """Call a function on a tree part. Return its answer."""
        self._reach(part)
        measured = has_length(self._spec[self._slot])
        self._slot += 1
        end = self._tape.read_end() if measured else None
        node = RowNode(self._functions, self._layout, name, self._tape)
        answer = answer_of(self._functions, name, node)
        if not node.finish():
            if measured:
                self._tape.jump(end)
            else:
                self._blocker = part
        return answer

    def finish(self):
        """Pass all parts that are left, if this can be done. Tell whether the call ends so."""
        if self._blocker is not None:
            return False
        if not all([self._can_pass(slot) for slot in self._spec[self._slot:]]):
            return False
        while self._slot < len(self._spec):
            self._pass_part()
        return True

    def _reach(self, part):
        """Move the cursor to the asked part, or get stuck (rules 1 to 3)."""
        goal = self._stored.index(part)
        if goal < self._slot:
            raise Backward(self._name, self.maker, part)
        if self._blocker is not None:
            raise Unknown(self._name, self.maker, part, self._blocker)
        while self._slot < goal:
            if not self._can_pass(self._spec[self._slot]):
                raise Unknown(self._name, self.maker, part, self._stored[self._slot])
            self._pass_part()

    def _can_pass(self, slot):
        """Tell whether the end of the part in a slot is known without running on it."""
        return has_length(slot) or slot in self._bytes

    def _pass_part(self):
        """Move the cursor over the part in the next slot."""
        if has_length(self._spec[self._slot]):
            end = self._tape.read_end()
            self._tape.jump(end)
        else:
            self._tape.jump(self._tape.at + 1)
        self._slot += 1


def run_tape(functions, layout, name, tape):
    """Run a function on a tape. Return the answer, and the index of the cursor or None."""
    node = RowNode(functions, layout, name, tape)
    answer = answer_of(functions, name, node)
    if node.finish():
        return answer, tape.at
    return answer, None


def run_row(functions, layout, name, row):
    """Return the answer, the prints and the end of a run on a packed row (point 18)."""
    tape = Tape(row)
    answer, end = run_tape(functions, layout, name, tape)
    return answer, tape.prints, end


def gets_stuck(functions, layout, name, tape):
    """Run a function on a tape as far as it goes. Tell whether the run got stuck."""
    try:
        run_tape(functions, layout, name, tape)
    except Stuck:
        return True
    return False


def events(functions, layout, name, row):
    """Yield what the cursor does in a run on a packed row (point 19)."""
    tape = Tape(row)
    stuck = gets_stuck(functions, layout, name, tape)
    for event in tape.log:
        yield event
    if stuck:
        # No yield may stand where the error is caught: so the run is made again to raise it.
        run_row(functions, layout, name, row)
