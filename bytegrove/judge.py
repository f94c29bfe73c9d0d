"""Judging layouts: on which rows functions run, and the least tree on which one gets stuck."""

from bytegrove.errors import Backward, Unknown, WrongLayout
from bytegrove.layouts import Layout, all_marks
from bytegrove.leasts import STUCK, UNENDED, least_tree
from bytegrove.passages import passages_of
from bytegrove.rows import pack
from bytegrove.runs import run_row


def all_passages(functions, layout, name):
    """Return the passages of all bodies of a function under a layout."""
    makers = functions.kinds.makers(functions.takes(name))
    return [passage for maker in makers for passage in passages_of(functions, name, maker, layout[maker])]


def can_run(passages, running, ending):
    """Tell whether a function with these passages runs if these functions run and these end."""
    for passage in passages:
        if not passage.goes:
            return False
        if not all([called in running for part, called in passage.calls]):
            return False
        if not all([called in ending for part, called in passage.held]):
            return False
    return True


def can_end(passages, ending):
    """Tell whether a function with these passages, which runs, ends if these functions end."""
    for passage in passages:
        if not passage.whole or not all([called in ending for part, called in passage.loose]):
            return False
    return True


def words_of(functions, layout):
    """Return a dict from each function to its word (points 20 and 21)."""
    passages = {name: all_passages(functions, layout, name) for name in functions.names}
    before = None
    running = list(functions.names)
    ending = list(functions.names)
    # The greatest closed sets are what is left when no function has to be taken away any more.
    while before != (running, ending):
        before = (running, ending)
        running = [name for name in before[0] if can_run(passages[name], before[0], before[1])]
        ending = [name for name in before[1] if name in running and can_end(passages[name], before[1])]
    return {name: word_in(name, running, ending) for name in functions.names}


def word_in(name, running, ending):
    """Return the word of a function for the greatest closed sets."""
    if name in ending:
        return "ends"
    return "runs" if name in running else STUCK


def least_stuck(functions, layout, name):
    """Return the least tree on which the run gets stuck, or None (point 22)."""
    return least_tree(functions, layout, name, STUCK)


def least_unended(functions, layout, name):
    """Return the least tree on which the run gets stuck or the first call does not end, or None (point 22)."""
    return least_tree(functions, layout, name, UNENDED)


class Verdict:
    """What is found out about a layout and a start (point 23)."""

    def __init__(self, start, right):
        self.start = start
        self.right = right

    def lines(self):
        """Return the verdict as lines."""
        return [f"start: {self.start}"]


class Right(Verdict):
    """The layout is right for the start."""

    def __init__(self, start, words):
        Verdict.__init__(self, start, True)
        self._words = dict(words)

    @property
    def words(self):
        """The word of each function that is reached from the start, in a new dict each time."""
        return dict(self._words)

    def lines(self):
        """Return the verdict as lines."""
        return super().lines() + [f"{name:<26}{word}" for name, word in self._words.items()]


class Wrong(Verdict):
    """The layout is not right for the start."""

    def __init__(self, start, tree, place, blocker):
        Verdict.__init__(self, start, False)
        self.tree = tree
        self.function, self.maker, self.part = place
        self.blocker = blocker

    def lines(self):
        """Return the verdict as lines."""
        lines = super().lines() + [f"{self.function} {self.maker}.{self.part}"]
        if self.blocker != "":
            lines.append(f"behind {self.blocker}")
        return lines


def judge(functions, layout, start):
    """Return a Right or a Wrong (point 23)."""
    tree = least_stuck(functions, layout, start)
    if tree is None:
        words = words_of(functions, layout)
        return Right(start, {name: words[name] for name in functions.reached(start)})
    return wrong_on(functions, layout, start, tree)


def wrong_on(functions, layout, start, tree):
    """Return the Wrong with the error that the run on the tree raises."""
    wrong = None
    try:
        run_row(functions, layout, start, pack(layout, tree))
    except Backward as backward:
        wrong = Wrong(start, tree, (backward.function, backward.maker, backward.part), "")
    except Unknown as unknown:
        wrong = Wrong(start, tree, (unknown.function, unknown.maker, unknown.part), unknown.blocker)
    return wrong


def copy_of(layout):
    """Return a new layout with the same specs."""
    return Layout(layout.kinds, dict(layout))


def what_if(functions, layout, changes, start):
    """Return the verdict on a layout in which the specs of some makers are changed (point 24)."""
    functions.takes(start)
    # The specs are assigned to a copy: so the layout has its own ones afterwards, whatever error is raised.
    changed = copy_of(layout)
    for maker, spec in changes:
        changed[maker] = spec
    return judge(functions, changed, start)


def check_right(functions, layout, start):
    """Raise WrongLayout if the layout is not right for the start."""
    tree = least_stuck(functions, layout, start)
    if tree is not None:
        raise WrongLayout(start, tree)


def is_right(functions, layout, starts):
    """Tell whether the layout is right for all starts."""
    words = words_of(functions, layout)
    return all([words[start] != STUCK for start in starts])


def needless(functions, layout, *starts):
    """Return the marks of the measured parts that need not be measured (point 25)."""
    # An unknown start counts before a layout that is not right for another one.
    functions.reached(*starts)
    for start in starts:
        check_right(functions, layout, start)
    return [mark for mark in all_marks(layout.kinds)
            if mark in layout and is_right(functions, layout - mark, starts)]


class RowFunction:
    """A function that is ready to run on rows (point 26)."""

    def __init__(self, functions, layout, start):
        check_right(functions, layout, start)
        self.count = 0
        self._functions = functions
        self._layout = copy_of(layout)
        self._start = start

    def __call__(self, row):
        answer, prints, _ = run_row(self._functions, self._layout, self._start, row)
        self.count += 1
        return answer, prints
