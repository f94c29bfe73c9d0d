"""Slow and plain second programs for what the document says. The tests compare the results with the program's."""

import itertools

from bytegrove.layouts import Layout


def part_in(slot):
    return slot[1:] if slot.startswith("+") else slot


def plain_row(kinds, tree):
    """Return the plain row as point 6 words it."""
    row = [kinds.tag(tree[0])]
    for part, value in zip(kinds.parts(tree[0]), tree[1:]):
        row.extend([value] if kinds.inner(tree[0], part) == "byte" else plain_row(kinds, value))
    return row


def tree_key(kinds, tree):
    row = plain_row(kinds, tree)
    return (len(row), row)


class TreeSource:
    """All trees of a table in which each byte is one of some bytes, by the length of the plain row."""

    def __init__(self, kinds, some_bytes):
        self.kinds = kinds
        self.some_bytes = sorted(some_bytes)
        self.known = {}

    def of_length(self, kind, length):
        """Return the trees whose plain row has this length, the least one first."""
        if (kind, length) not in self.known:
            found = [(maker, *values) for maker in self.kinds.makers(kind)
                     for values in self.values(maker, self.kinds.parts(maker), length - 1)]
            self.known[kind, length] = sorted(found, key=lambda tree: tree_key(self.kinds, tree))
        return self.known[kind, length]

    def values(self, maker, parts, length):
        if not parts:
            return [()] if length == 0 else []
        found = []
        inner = self.kinds.inner(maker, parts[0])
        for own in range(1, length - len(parts) + 2):
            if inner == "byte":
                first = self.some_bytes if own == 1 else []
            else:
                first = self.of_length(inner, own)
            found.extend((value, *rest) for value in first for rest in self.values(maker, parts[1:], length - own))
        return found

    def in_order(self, kind, limit):
        """Return the least trees of a kind, about so many, and the length that they have at most."""
        found = []
        for length in range(1, 12):
            more = self.of_length(kind, length)
            if len(found) + len(more) > limit:
                return found, length - 1
            found.extend(more)
        return found, 11


def bounds_in(functions):
    """Return 0 and all bounds of the functions: for the paths that runs take, no other bytes are needed."""
    found = {0}
    for name in functions.names:
        for maker in functions.kinds.makers(functions.takes(name)):
            for path in functions.paths(name, maker):
                found.update(low for part, called, low in path)
    return found


class Halt(Exception):
    """A run is stuck."""


class Walk:
    """A run on a packed row, told by the four rules of point 18."""

    def __init__(self, functions, layout, row):
        self.functions = functions
        self.layout = layout
        self.kinds = layout.kinds
        self.row = row
        self.events = []
        self.prints = []
        self.stuck = None

    def start(self, name):
        """Return the answer and the index or None. Both are None for a run that gets stuck."""
        try:
            answer, at, ended = self.call(name, 0)
            return answer, at if ended else None
        except Halt as halt:
            self.stuck = halt.args
            return None, None

    def call(self, name, at):
        """Return the answer, the index of the cursor, and whether the call ended."""
        maker = self.kinds.makers(self.functions.takes(name))[self.row[at]]
        self.events.append(("tag", at, maker))
        at += 1
        order = [part_in(slot) for slot in self.layout[maker]]
        dealt, taken, unended = [], [], []
        steps = list(self.functions.body(name, maker))
        while steps:
            step = steps.pop(0)
            if step[0] == "say":
                self.prints.append(step[1])
                taken.append(step[1])
                continue
            part = step[2] if step[0] == "call" else step[1]
            if any(order.index(part) < order.index(other) for other in dealt):
                raise Halt("Backward", name, maker, part)
            if unended:
                raise Halt("Unknown", name, maker, part, unended[0])
            for other in [other for other in order if order.index(other) < order.index(part) and other not in dealt]:
                if self.kinds.inner(maker, other) != "byte" and "+" + other not in self.layout[maker]:
                    raise Halt("Unknown", name, maker, part, other)
                at = self.over(maker, other, at)
                dealt.append(other)
            dealt.append(part)
            if step[0] == "call":
                answer, at, ended = self.inner(maker, step, at)
                taken.append(answer)
                if not ended:
                    unended.append(part)
                continue
            self.events.append(("byte", at, self.row[at]))
            at += 1
            if step[0] == "if":
                steps = list(step[3] if self.row[at - 1] < step[2] else step[4])
            else:
                self.prints.append(self.row[at - 1])
                taken.append(self.row[at - 1])
        answer = sum(taken) if self.fold(name) == "sum" else max([0] + taken)
        left = [other for other in order if other not in dealt]
        ended = not unended and all(
            self.kinds.inner(maker, other) == "byte" or "+" + other in self.layout[maker] for other in left)
        for other in left if ended else []:
            at = self.over(maker, other, at)
        return answer, at, ended

    def fold(self, name):
        return self.functions.fold(name)

    def inner(self, maker, step, at):
        """Return the answer, the index behind the call, and whether the cursor is at the end of the part."""
        end = None
        if "+" + step[2] in self.layout[maker]:
            length = self.row[at] * 256 + self.row[at + 1]
            self.events.append(("length", at, length))
            at += 2
            end = at + length
        answer, at, ended = self.call(step[1], at)
        if end is not None and not ended:
            self.events.append(("jump", at, end))
            return answer, end, True
        return answer, at, ended

    def over(self, maker, part, at):
        """Pass a part. Return the index behind it."""
        if self.kinds.inner(maker, part) == "byte":
            self.events.append(("jump", at, at + 1))
            return at + 1
        length = self.row[at] * 256 + self.row[at + 1]
        self.events.extend([("length", at, length), ("jump", at + 2, at + 2 + length)])
        return at + 2 + length


def path_holds(kinds, maker, spec, path, ends, running, ending):
    """Tell whether the conditions of point 21 hold on a path of a function, which may itself be one that ends."""
    order = [part_in(slot) for slot in spec]
    asked = [part for part, called, low in path]
    inside = [part for part in kinds.parts(maker) if kinds.inner(maker, part) != "byte"]
    measured = [part for part in inside if "+" + part in spec]
    if [order.index(part) for part in asked] != sorted(order.index(part) for part in asked):
        return False
    for at, part in enumerate(asked):
        for other in inside:
            if order.index(other) < order.index(part) and other not in asked[:at] and other not in measured:
                return False
    for at, (part, called, low) in enumerate(path):
        if part in inside and called not in running:
            return False
        if part in inside and part not in measured and at + 1 < len(path) and called not in ending:
            return False
    if ends:
        done = [part for part, called, low in path if called in ending]
        return all(part in measured or part in done for part in inside)
    return True


def are_closed(functions, layout, running, ending):
    kinds = functions.kinds
    return all(path_holds(kinds, maker, layout[maker], path, name in ending, running, ending)
               for name in running for maker in kinds.makers(functions.takes(name))
               for path in functions.paths(name, maker))


def subsets(names):
    return [set(some) for size in range(len(names) + 1) for some in itertools.combinations(names, size)]


def closed_words(functions, layout):
    """Return the words: what is in some closed sets is in the greatest ones."""
    runs, ends = set(), set()
    for running in subsets(functions.names):
        for ending in subsets(sorted(running)):
            if are_closed(functions, layout, running, ending):
                runs |= running
                ends |= ending
    return {name: "ends" if name in ends else "runs" if name in runs else "stuck" for name in functions.names}


def specs_of_maker(kinds, maker):
    """Return all specs of a maker."""
    found = []
    for order in itertools.permutations(kinds.parts(maker)):
        slots = [(part,) if kinds.inner(maker, part) == "byte" else (part, "+" + part) for part in order]
        found.extend(itertools.product(*slots))
    return found


def spec_cost(kinds, maker, spec):
    return sum(kinds.price_of(maker, slot[1:]) for slot in spec if slot.startswith("+"))


def all_layouts(kinds):
    """Return all layouts of the kinds."""
    specs = [specs_of_maker(kinds, maker) for maker in kinds.order]
    return [Layout(kinds, dict(zip(kinds.order, chosen))) for chosen in itertools.product(*specs)]


def good_specs(functions, reached, ending, maker):
    """Return the good specs of a maker as point 29 words it, the best one first."""
    kinds = functions.kinds
    paths = [(path, name in ending) for name in reached if functions.takes(name) == kinds.kind_of(maker)
             for path in functions.paths(name, maker)]
    good = [spec for spec in specs_of_maker(kinds, maker)
            if all(path_holds(kinds, maker, spec, path, ends, reached, ending) for path, ends in paths)]
    return sorted(good, key=lambda spec: (spec_cost(kinds, maker, spec), spec))


def least_cycle(functions, reached, maker):
    """Return the least of the shortest cycles of a maker, or None."""
    before = set()
    for name in reached:
        if functions.takes(name) == functions.kinds.kind_of(maker):
            for path in functions.paths(name, maker):
                asked = [part for part, called, low in path]
                before.update(itertools.combinations(asked, 2))
    found = []
    for size in (2, 3, 4):
        for cycle in itertools.permutations(functions.kinds.parts(maker), size):
            if all((cycle[at - 1], cycle[at]) in before for at in range(size)):
                found.append((size, cycle))
    return min(found)[1] if found else None
