"""Function tables: the bodies of functions, their paths, and which functions they call."""

from bytegrove.errors import BadFunctions, NotThere
from bytegrove.kinds import BYTE, is_name, is_number

MOST_STEPS = 12
MOST_FUNCTIONS = 6
MOST_SAID = 1000
LEAST_BOUND = 1
MOST_BOUND = 255
FOLDS = ("sum", "max")


def asks_byte(kinds, maker, part, asked):
    """Tell whether the part is a byte part of the maker that was not asked before."""
    return part in kinds.parts(maker) and part not in asked and kinds.inner(maker, part) == BYTE


def asks_tree(kinds, maker, part, asked):
    """Tell whether the part is a tree part of the maker that was not asked before."""
    return part in kinds.parts(maker) and part not in asked and kinds.inner(maker, part) != BYTE


def is_step(kinds, maker, step, asked):
    """Tell whether this is a valid step other than an `if`, behind steps that asked some parts (point 13)."""
    word = step[0]
    if word == "say":
        return len(step) == 2 and is_number(step[1], 0, MOST_SAID)
    if word == "read":
        return len(step) == 2 and asks_byte(kinds, maker, step[1], asked)
    # The function of a call is checked in the second pass.
    return word == "call" and len(step) == 3 and asks_tree(kinds, maker, step[2], asked)


def is_branch(kinds, maker, step, asked):
    """Tell whether this is a valid `if`, behind steps that asked some parts (point 13)."""
    if len(step) != 5 or not asks_byte(kinds, maker, step[1], asked):
        return False
    if not is_number(step[2], LEAST_BOUND, MOST_BOUND):
        return False
    later = asked + (step[1],)
    return is_body(kinds, maker, step[3], later) and is_body(kinds, maker, step[4], later)


def is_body(kinds, maker, body, asked):
    """Tell whether this is a valid body for the maker, behind steps that asked some parts (point 13)."""
    if not isinstance(body, tuple) or len(body) > MOST_STEPS:
        return False
    for at, step in enumerate(body):
        if step[0] == "if":
            return at == len(body) - 1 and is_branch(kinds, maker, step, asked)
        if not is_step(kinds, maker, step, asked):
            return False
        if step[0] != "say":
            asked = asked + (step[-1],)
    return True


def are_bodies(kinds, kind, bodies):
    """Tell whether there is a valid body for each maker of the kind and nothing else."""
    makers = kinds.makers(kind)
    if not isinstance(bodies, dict) or len(bodies) != len(makers):
        return False
    for maker in makers:
        if maker not in bodies or not is_body(kinds, maker, bodies[maker], ()):
            return False
    return True


def check_each_row(kinds, rows):
    """Make the first pass of point 14: each row by itself, after the rows in front of it."""
    names = {}
    for at, (name, kind, fold, bodies) in enumerate(rows):
        if at >= MOST_FUNCTIONS or not is_name(name) or name in names:
            raise BadFunctions(at)
        if kind not in kinds.names or fold not in FOLDS or not are_bodies(kinds, kind, bodies):
            raise BadFunctions(at)
        names[name] = True


def check_called(kinds, rows):
    """Make the second pass of point 14: the functions that are called."""
    takes = {name: kind for name, kind, fold, bodies in rows}
    for at, (name, kind, fold, bodies) in enumerate(rows):
        for maker, body in bodies.items():
            for part, called in asked_parts(body):
                inner = kinds.inner(maker, part)
                if inner != BYTE and takes.get(called) != inner:
                    raise BadFunctions(at)


def paths_of(body):
    """Return the paths of a body (point 15)."""
    asked = ()
    for step in body:
        if step[0] == "read":
            asked = asked + ((step[1], "", 0),)
        elif step[0] == "call":
            asked = asked + ((step[2], step[1], 0),)
        elif step[0] == "if":
            below = asked + ((step[1], "", 0),)
            other = asked + ((step[1], "", step[2]),)
            # No step follows an `if`: so each path of its bodies leads to the end.
            return [below + rest for rest in paths_of(step[3])] + [other + rest for rest in paths_of(step[4])]
    return [asked]


def asked_parts(body):
    """Return the pairs of a part and the function that is called on it, from all paths of a body."""
    return [(part, called) for path in paths_of(body) for part, called, low in path]


class Functions:
    """A function table (points 13 to 16)."""

    def __init__(self, kinds, rows):
        if len(rows) == 0:
            raise BadFunctions(0)
        check_each_row(kinds, rows)
        check_called(kinds, rows)
        self.kinds = kinds
        self.names = tuple([name for name, kind, fold, bodies in rows])
        self._takes = {name: kind for name, kind, fold, bodies in rows}
        self._folds = {name: fold for name, kind, fold, bodies in rows}
        self._bodies = {name: dict(bodies) for name, kind, fold, bodies in rows}

    def takes(self, name):
        """Return the kind that the function takes."""
        if name not in self._takes:
            raise NotThere(name)
        return self._takes[name]

    def fold(self, name):
        """Return the fold of the function, which must be one of the table."""
        return self._folds[name]

    def body(self, name, maker):
        """Return the body of the function for the maker."""
        if name not in self._bodies:
            raise NotThere(name)
        if maker not in self._bodies[name]:
            raise NotThere(maker)
        return self._bodies[name][maker]

    def paths(self, name, maker):
        """Return the paths of the body of the function for the maker (point 15)."""
        return paths_of(self.body(name, maker))

    def reached(self, *starts):
        """Return the functions that are reached from the starts, in the order of the table (point 16)."""
        for name in starts:
            if name not in self._bodies:
                raise NotThere(name)
        found = {}
        waiting = list(starts)
        while waiting:
            name = waiting.pop()
            if name not in found:
                found[name] = True
                waiting.extend(self._called(name))
        return [name for name in self.names if name in found]

    def _called(self, name):
        """Return the functions that the bodies of the function call."""
        bodies = list(self._bodies[name].values())
        return [called for body in bodies for part, called in asked_parts(body) if called != ""]
