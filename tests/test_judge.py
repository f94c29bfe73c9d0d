"""Points 20 to 26, with 1, 6 and 31, for judge.py."""

import unittest

from bytegrove.bodies import Functions
from bytegrove.errors import BadLayout, NotThere, Stuck, WrongLayout
from bytegrove.judge import (Right, RowFunction, Verdict, Wrong, judge, least_stuck, least_unended, needless, what_if,
                             words_of)
from bytegrove.kinds import Kinds
from bytegrove.layouts import Layout
from bytegrove.rows import pack
from bytegrove.runs import run_row, run_tree
from tests.reference import TreeSource, bounds_in, closed_words, plain_row
from tests.samples import last_functions, random_case, random_tree, seeded, tree_kinds, wood_kinds

WOOD = wood_kinds()
LEAF = ("Leaf", 0)
NODE = ("Node", 0, 0, LEAF, LEAF)
UNKNOWN_NAMES = ["", "F", "Wood", "Node", "f ", "none"]
READ_ALL = (("read", "a"), ("read", "b"), ("call", "all", "left"), ("call", "all", "right"))


def wood_functions(*nodes):
    """Return a table of functions that read a leaf: f0, f1 .. with these bodies for Node, and all, which ends on
    each tree where the parts of Node are in their order."""
    rows = [("f%d" % at, "Wood", "sum", {"Leaf": (("read", "n"),), "Node": node}) for at, node in enumerate(nodes)]
    return Functions(WOOD, rows + [("all", "Wood", "sum", {"Leaf": (("read", "n"),), "Node": READ_ALL})])


def wood_layout(slots, full="wood next"):
    return Layout(WOOD, {"Leaf": ("n",), "Node": tuple(slots.split()), "Full": tuple(full.split()), "Void": ()})


def words(layout, *nodes):
    """Return the words of f0, f1 .. as a string."""
    found = words_of(wood_functions(*nodes), layout)
    return " ".join(found["f%d" % at] for at in range(len(nodes)))


class WordsTest(unittest.TestCase):
    def test_words_of_the_example(self):
        kinds = tree_kinds()
        functions = last_functions(kinds)
        for slots, word in ((("left", "right"), "stuck"), (("+left", "right"), "ends"), (("right", "left"), "runs"),
                            (("right", "+left"), "ends"), (("+right", "left"), "runs"), (("+left", "+right"), "ends")):
            self.assertEqual(words_of(functions, Layout(kinds, {"Leaf": ("n",), "Node": slots})), {"last": word})

    def test_order_of_the_table(self):
        functions = wood_functions((), (("read", "b"), ("read", "a")), (("read", "a"),))
        found = words_of(functions, wood_layout("a b left +right"))
        self.assertIs(found.__class__, dict)
        self.assertEqual(list(found.items()), [("f0", "runs"), ("f1", "stuck"), ("f2", "runs"), ("all", "ends")])

    def test_returned_dict_is_new(self):
        functions = wood_functions(())
        layout = wood_layout("a b left right")
        words_of(functions, layout).clear()
        self.assertEqual(words_of(functions, layout), {"f0": "runs", "all": "ends"})

    def test_asked_parts_in_the_order_of_the_spec(self):
        body = (("read", "b"), ("read", "a"))
        self.assertEqual(words(wood_layout("a b +left +right"), body), "stuck")
        self.assertEqual(words(wood_layout("b a +left +right"), body), "ends")
        self.assertEqual(words(wood_layout("b +left a +right"), body), "ends")

    def test_part_in_front_that_is_not_asked(self):
        body = (("read", "b"),)
        self.assertEqual(words(wood_layout("left b a +right"), body), "stuck")
        self.assertEqual(words(wood_layout("+left b a right"), body), "runs")
        self.assertEqual(words(wood_layout("+left a b +right"), body), "ends")

    def test_one_path_decides(self):
        body = (("if", "a", 255, (), (("if", "b", 255, (), (("call", "f0", "right"),)),)),)
        self.assertEqual(words(wood_layout("a b left right"), body), "stuck")
        self.assertEqual(words(wood_layout("a b right left"), body), "runs")
        self.assertEqual(words(wood_layout("a b right +left"), body), "runs")
        self.assertEqual(words(wood_layout("a b +right +left"), body), "ends")

    def test_called_functions_run(self):
        body = (("if", "a", 255, (), (("call", "all", "right"),)),)
        self.assertEqual(words(wood_layout("a b +left +right"), body), "ends")
        self.assertEqual(words(wood_layout("a b +right +left"), body), "stuck")

    def test_calls_of_itself_that_end(self):
        # Each tree has an end: so a function ends that only calls itself on all parts.
        body = (("read", "a"), ("read", "b"), ("call", "f0", "left"), ("call", "f0", "right"))
        for slots in ("a b left right", "a b +left right", "a b +left +right", "a b left +right"):
            self.assertEqual(words(wood_layout(slots), body), "ends")
        self.assertEqual(words(wood_layout("b a left right"), body), "stuck")

    def test_call_that_may_not_end_before_another_part(self):
        body = (("call", "f1", "left"), ("call", "all", "right"))
        inner = (("call", "f1", "left"),)
        self.assertEqual(words(wood_layout("left a b right"), body, inner), "stuck runs")
        self.assertEqual(words(wood_layout("a b +left right"), body, inner), "ends runs")
        self.assertEqual(words(wood_layout("a b left +right"), body, inner), "ends ends")
        self.assertEqual(words(wood_layout("a b left right"), inner, body), "runs ends")

    def test_call_that_may_not_end_as_the_last_part(self):
        body = (("call", "f1", "right"), ("say", 3))
        skip = (("read", "a"),)
        self.assertEqual(words(wood_layout("a b +left right"), body, skip), "runs runs")
        self.assertEqual(words(wood_layout("a b +left +right"), body, skip), "ends ends")
        self.assertEqual(words(wood_layout("a right b +left"), body, skip), "runs runs")

    def test_functions_that_call_each_other(self):
        one = (("read", "a"), ("call", "f1", "left"), ("call", "f1", "right"))
        two = (("read", "b"), ("call", "f0", "left"), ("call", "f0", "right"))
        self.assertEqual(words(wood_layout("a b left right"), one, two), "ends ends")
        self.assertEqual(words(wood_layout("a b left right"), one, two[:2]), "stuck stuck")
        self.assertEqual(words(wood_layout("a b +left right"), one, two[:2]), "runs runs")
        self.assertEqual(words(wood_layout("a left b right"), one, two), "stuck stuck")

    def test_stuck_through_several_calls(self):
        chain = [(("call", "f%d" % (at + 1), "left"),) for at in range(4)]
        self.assertEqual(words(wood_layout("a b +left +right"), *chain, (("read", "b"), ("read", "a"))), "stuck " * 4 +
                         "stuck")
        self.assertEqual(words(wood_layout("left a b +right"), *chain, ()), "runs runs runs runs runs")
        self.assertEqual(words(wood_layout("a b +left +right"), *chain, ()), "ends ends ends ends ends")

    def test_each_maker_counts(self):
        kinds = Kinds([("K", "E", ()), ("K", "M", (("x", "K", 1), ("y", "K", 1)))])
        bodies = {"E": (), "M": (("call", "f", "y"),)}
        functions = Functions(kinds, [("f", "K", "sum", bodies), ("g", "K", "sum", {"E": (("say", 1),), "M": ()})])
        self.assertEqual(words_of(functions, Layout.plain(kinds)), {"f": "stuck", "g": "runs"})
        self.assertEqual(words_of(functions, Layout.plain(kinds) + "M.x"), {"f": "ends", "g": "runs"})

    def test_against_all_closed_sets_and_the_least_trees(self):
        seen = {}
        for number in range(600):
            functions, layout = random_case(seeded(number))
            found = words_of(functions, layout)
            self.assertEqual(list(found), list(functions.names))
            self.assertEqual(found, closed_words(functions, layout), number)
            for name, word in found.items():
                seen[word] = seen.get(word, 0) + 1
                self.assertEqual(least_stuck(functions, layout, name) is None, word != "stuck")
                self.assertEqual(least_unended(functions, layout, name) is None, word == "ends")
        for word in ("stuck", "runs", "ends"):
            self.assertGreater(seen[word], 80)


class LeastTest(unittest.TestCase):
    def check(self, stuck, unended, layout, *nodes):
        """Check the least trees of f0."""
        functions = wood_functions(*nodes)
        self.assertEqual(least_stuck(functions, layout, "f0"), stuck)
        self.assertEqual(least_unended(functions, layout, "f0"), unended)

    def test_none(self):
        self.check(None, None, wood_layout("a b left right"), READ_ALL)
        self.check(None, NODE, wood_layout("a b left right"), ())
        self.check(None, None, wood_layout("a b +left +right"), ())

    def test_stuck_at_once(self):
        self.check(NODE, NODE, wood_layout("left b a right"), (("read", "b"),))

    def test_least_byte_of_the_path(self):
        body = (("if", "a", 7, (), (("if", "b", 200, (("call", "all", "right"),), ()),)),)
        self.check(("Node", 7, 0, LEAF, LEAF), NODE, wood_layout("a b left right"), body)
        body = (("if", "a", 7, READ_ALL[2:], (("if", "b", 200, READ_ALL[2:], (("call", "all", "right"),)),)),)
        self.check(("Node", 7, 200, LEAF, LEAF), ("Node", 7, 200, LEAF, LEAF), wood_layout("a b left right"), body)
        body = (("if", "a", 7, READ_ALL[2:], (("call", "all", "left"), ("read", "b"))),)
        self.check(("Node", 7, 0, LEAF, LEAF), ("Node", 7, 0, LEAF, LEAF), wood_layout("a b left right"), body)

    def test_deeper_in(self):
        # f0 gets stuck only where f1 does, and f1 only on a node.
        one, two = (("call", "f1", "left"),), (("read", "b"), ("read", "a"))
        self.check(("Node", 0, 0, NODE, LEAF), ("Node", 0, 0, NODE, LEAF), wood_layout("a b +left +right"), one, two)
        one = (("call", "f1", "right"),)
        self.check(("Node", 0, 0, LEAF, NODE), ("Node", 0, 0, LEAF, NODE), wood_layout("a b +left +right"), one, two)

    def test_deeper_in_beyond_a_branch(self):
        one = (("if", "b", 4, (), (("call", "f1", "right"),)),)
        two = (("if", "a", 9, (), (("call", "f2", "left"),)),)
        three = (("read", "b"), ("read", "a"))
        inner = ("Node", 9, 0, NODE, LEAF)
        self.check(("Node", 0, 4, LEAF, inner), ("Node", 0, 4, LEAF, inner), wood_layout("a b +left +right"), one, two,
                   three)

    def test_length_of_the_plain_row_goes_before_the_tags(self):
        kinds = Kinds([("K", "Long", tuple((part, "byte") for part in "abcd")),
                       ("K", "Short", (("a", "byte"), ("b", "byte"))), ("K", "Void", ())])
        twisted = {"Long": (("read", "b"), ("read", "a")), "Short": (("read", "b"), ("read", "a")), "Void": ()}
        functions = Functions(kinds, [("f", "K", "sum", twisted)])
        self.assertEqual(least_stuck(functions, Layout.plain(kinds), "f"), ("Short", 0, 0))

    def test_rows_of_one_length(self):
        # Both makers of seven bytes get stuck; the tag of the first one is less.
        kinds = Kinds([("K", "E", ()), ("K", "M", (("a", "byte"), ("x", "K", 1))),
                       ("K", "N", (("y", "K", 1), ("a", "byte")))])
        bodies = {"E": (), "M": (("call", "f", "x"), ("read", "a")), "N": (("read", "a"), ("call", "f", "y"))}
        functions = Functions(kinds, [("f", "K", "sum", bodies)])
        self.assertEqual(least_stuck(functions, Layout.plain(kinds), "f"), ("M", 0, ("E",)))
        turned = Layout(kinds, {"E": (), "M": ("x", "a"), "N": ("y", "a")})
        self.assertEqual(least_stuck(functions, turned, "f"), ("N", ("E",), 0))

    def test_rows_of_one_length_that_differ_behind_the_tag(self):
        # Beyond the first bound b counts, below it the right tree: [1, 0, 9 ..] is less than [1, 5, 0 ..].
        twisted = (("read", "b"), ("read", "a"))
        inner = (("if", "b", 9, (), (("call", "f1", "left"),)),)
        other = (("if", "b", 1, (("call", "f1", "left"),), ()),)
        self.check(("Node", 0, 9, NODE, LEAF), ("Node", 0, 9, NODE, LEAF), wood_layout("a b +left +right"),
                   (("if", "a", 5, inner, other),), twisted)
        # A later part of a node with the same length: the earlier part stays less if the later one is greater.
        both = (("call", "f1", "left"), ("call", "f1", "right"))
        self.check(("Node", 0, 0, LEAF, NODE), ("Node", 0, 0, LEAF, NODE), wood_layout("a b +left +right"), both,
                   twisted)

    def test_least_trees_inside_are_those_of_other_kinds(self):
        kinds = Kinds([("Box", "Full", (("wood", "Wood", 1), ("n", "byte"), ("m", "byte"))),
                       ("Wood", "Twig", (("a", "byte"), ("b", "byte"))), ("Wood", "Leaf", (("n", "byte"),))])
        functions = Functions(kinds, [("f", "Box", "sum", {"Full": (("read", "m"), ("read", "n"))})])
        self.assertEqual(least_stuck(functions, Layout.plain(kinds) + "Full.wood", "f"), ("Full", ("Leaf", 0), 0, 0))

    def test_call_that_does_not_end_in_front_of_another_part(self):
        skip = ()
        self.check(("Node", 0, 0, NODE, LEAF), NODE, wood_layout("left a b right"), (("call", "f1", "left"),
                                                                                     ("read", "a")), skip)
        self.check(None, NODE, wood_layout("left a b right"), (("call", "f1", "left"),), skip)
        self.check(None, ("Node", 0, 0, NODE, LEAF), wood_layout("a left b +right"), (("call", "f1", "left"),), (
            ("if", "a", 1, (), ()),))

    def test_least_unended_through_a_called_function_that_gets_stuck(self):
        twisted = (("read", "b"), ("read", "a"))
        self.check(("Node", 0, 0, NODE, LEAF), ("Node", 0, 0, NODE, LEAF), wood_layout("a b left right"),
                   (("call", "f1", "left"), ("call", "all", "right")), twisted)

    def test_unknown_function(self):
        functions = wood_functions(())
        for name in UNKNOWN_NAMES:
            for call in (least_stuck, least_unended):
                with self.assertRaises(NotThere) as caught:
                    call(functions, wood_layout("a b left right"), name)
                self.assertEqual(caught.exception.name, name)

    def test_against_all_small_trees(self):
        checked = 0
        for number in range(250):
            functions, layout = random_case(seeded(number))
            source = TreeSource(functions.kinds, bounds_in(functions))
            for name in functions.names:
                trees, length = source.in_order(functions.takes(name), 250)
                leasts = least_stuck(functions, layout, name), least_unended(functions, layout, name)
                for found, expected in zip(leasts, self.first_trees(functions, layout, name, trees)):
                    if expected is not None:
                        self.assertEqual(found, expected)
                        checked += 1
                    elif found is not None:
                        self.assertGreater(len(plain_row(functions.kinds, found)), length)
                        self.assertTrue(functions.kinds.fits(found, functions.takes(name)))
        self.assertGreater(checked, 200)

    def first_trees(self, functions, layout, name, trees):
        """Return the first trees on which the run gets stuck, and gets stuck or does not end."""
        unended = None
        for tree in trees:
            try:
                end = run_row(functions, layout, name, pack(layout, tree))[2]
            except Stuck:
                return tree, unended or tree
            if end is None:
                unended = unended or tree
        return None, unended


class VerdictTest(unittest.TestCase):
    def test_right(self):
        functions = wood_functions((("call", "f1", "left"),), (), (("read", "b"), ("read", "a")))
        verdict = judge(functions, wood_layout("a b +left +right"), "f0")
        self.assertIs(verdict.__class__, Right)
        self.assertIsInstance(verdict, Verdict)
        self.assertEqual((verdict.start, verdict.right), ("f0", True))
        self.assertEqual(list(verdict.words.items()), [("f0", "ends"), ("f1", "ends")])
        self.assertEqual(verdict.lines(), ["start: f0", "f0                        ends",
                                           "f1                        ends"])

    def test_right_in_the_order_of_the_table(self):
        functions = wood_functions((), (("call", "all", "left"), ("call", "f0", "right")))
        verdict = judge(functions, wood_layout("a b left right"), "f1")
        self.assertEqual(list(verdict.words.items()), [("f0", "runs"), ("f1", "runs"), ("all", "ends")])
        self.assertEqual(verdict.lines(), ["start: f1", "f0                        runs",
                                           "f1                        runs", "all                       ends"])

    def test_name_of_24_characters(self):
        kinds = tree_kinds()
        name = "n" * 24
        functions = Functions(kinds, [(name, "Tree", "sum", {"Leaf": (), "Node": ()})])
        self.assertEqual(judge(functions, Layout.plain(kinds), name).lines(), ["start: " + name, name + "  runs"])

    def test_words_after_a_returned_dict_was_changed(self):
        verdict = judge(wood_functions(()), wood_layout("a b left right"), "f0")
        lines = verdict.lines()
        first = verdict.words
        first["f0"] = "stuck"
        first["x"] = "ends"
        self.assertEqual(verdict.words, {"f0": "runs"})
        self.assertIsNot(verdict.words, verdict.words)
        self.assertEqual(verdict.lines(), lines)
        lines.append("more")
        self.assertEqual(verdict.lines(), lines[:-1])

    def test_wrong_with_backward(self):
        functions = wood_functions((("call", "f1", "left"),), (("if", "b", 5, (), (("read", "a"),)),))
        verdict = judge(functions, wood_layout("a b +left +right"), "f0")
        self.assertIs(verdict.__class__, Wrong)
        self.assertIsInstance(verdict, Verdict)
        self.assertEqual((verdict.start, verdict.right), ("f0", False))
        self.assertEqual(verdict.tree, ("Node", 0, 0, ("Node", 0, 5, LEAF, LEAF), LEAF))
        self.assertEqual((verdict.function, verdict.maker, verdict.part, verdict.blocker), ("f1", "Node", "a", ""))
        self.assertEqual(verdict.lines(), ["start: f0", "f1 Node.a"])

    def test_wrong_with_unknown(self):
        kinds = tree_kinds()
        verdict = judge(last_functions(kinds), Layout.plain(kinds), "last")
        self.assertEqual((verdict.start, verdict.right, verdict.tree, verdict.function, verdict.maker, verdict.part,
                          verdict.blocker),
                         ("last", False, ("Node", ("Leaf", 0), ("Leaf", 0)), "last", "Node", "right", "left"))
        self.assertEqual(verdict.lines(), ["start: last", "last Node.right", "behind left"])

    def test_wrong_behind_a_call_that_does_not_end(self):
        functions = wood_functions((("call", "f1", "left"), ("read", "b")), ())
        verdict = judge(functions, wood_layout("a left +right b"), "f0")
        self.assertEqual((verdict.tree, verdict.part, verdict.blocker), (("Node", 0, 0, NODE, LEAF), "b", "left"))
        self.assertEqual(verdict.lines(), ["start: f0", "f0 Node.b", "behind left"])

    def test_lines_of_verdict_itself(self):
        functions = wood_functions((), (("read", "b"), ("read", "a")))
        layout = wood_layout("a b left right")
        for start in ("f0", "f1"):
            verdict = judge(functions, layout, start)
            self.assertEqual(Verdict.lines(verdict), ["start: " + start])
        for cls in (Verdict, Right, Wrong):
            self.assertIn("lines", vars(cls))
        self.assertEqual((Right.__bases__, Wrong.__bases__), ((Verdict,), (Verdict,)))

    def test_returned_lines_are_new(self):
        verdict = judge(wood_functions((("read", "b"), ("read", "a"))), wood_layout("a b left right"), "f0")
        lines = verdict.lines()
        lines.clear()
        self.assertEqual(verdict.lines(), ["start: f0", "f0 Node.a"])

    def test_later_changes_of_the_layout(self):
        layout = wood_layout("a b left right")
        verdict = judge(wood_functions(()), layout, "f0")
        layout["Node"] = ("left", "a", "b", "+right")
        self.assertEqual(verdict.words, {"f0": "runs"})

    def test_unknown_start(self):
        for name in UNKNOWN_NAMES:
            with self.assertRaises(NotThere) as caught:
                judge(wood_functions(()), wood_layout("a b left right"), name)
            self.assertEqual(caught.exception.name, name)

    def test_against_the_words(self):
        for number in range(300):
            functions, layout = random_case(seeded(number), 3, 6, 4)
            found = words_of(functions, layout)
            for start in functions.names:
                verdict = judge(functions, layout, start)
                self.assertEqual(verdict.right, found[start] != "stuck")
                if verdict.right:
                    self.assertEqual(list(verdict.words.items()),
                                     [(name, found[name]) for name in functions.reached(start)])
                    continue
                with self.assertRaises(Stuck) as caught:
                    run_row(functions, layout, start, pack(layout, verdict.tree))
                error = caught.exception
                self.assertEqual((verdict.function, verdict.maker, verdict.part, verdict.blocker),
                                 (error.function, error.maker, error.part, getattr(error, "blocker", "")))


class WhatIfTest(unittest.TestCase):
    def setUp(self):
        self.layout = wood_layout("a b left right")
        self.before = (list(self.layout), self.layout.price)
        self.functions = wood_functions((("call", "all", "right"), ("read", "b")))

    def tearDown(self):
        self.assertEqual((list(self.layout), self.layout.price), self.before)

    def verdict(self, changes, start="f0"):
        copy = list(changes)
        verdict = what_if(self.functions, self.layout, changes, start)
        self.assertEqual(changes, copy)
        return verdict

    def test_no_changes(self):
        verdict = self.verdict([])
        self.assertEqual((verdict.part, verdict.blocker), ("right", "left"))
        self.assertEqual(self.verdict([], "all").words, {"all": "ends"})

    def test_one_change(self):
        verdict = self.verdict([("Node", ("+left", "right", "a", "b"))])
        self.assertEqual((verdict.right, verdict.function, verdict.part, verdict.blocker), (False, "all", "a", "right"))
        self.assertEqual(self.verdict([("Node", ("b", "a", "left", "right"))], "all").part, "b")

    def test_several_changes(self):
        kinds = tree_kinds()
        functions = last_functions(kinds)
        layout = Layout.plain(kinds)
        verdict = what_if(functions, layout, [("Leaf", ("n",)), ("Node", ("right", "+left"))], "last")
        self.assertEqual(verdict.words, {"last": "ends"})
        self.assertEqual(list(layout), [("Leaf", ("n",)), ("Node", ("left", "right"))])

    def test_same_maker_twice(self):
        changes = [("Node", ("+left", "b", "a", "+right")), ("Full", ("+next", "wood")),
                   ("Node", ("left", "a", "b", "right"))]
        verdict = self.verdict(changes, "all")
        self.assertEqual((verdict.part, verdict.blocker), ("a", "left"))
        self.assertTrue(self.verdict(changes + [("Node", ("a", "b", "left", "right"))], "all").right)

    def test_invalid_spec_after_valid_ones(self):
        good = ("Node", ("+left", "right", "a", "b"))
        for maker, spec in (("Full", ("wood",)), ("Leaf", ("+n",)), ("Node", ()), ("Void", ("x",))):
            for changes in ([(maker, spec)], [good, (maker, spec)], [good, good, (maker, spec), ("x", ()), good]):
                with self.assertRaises(BadLayout) as caught:
                    self.verdict(changes)
                self.assertEqual(caught.exception.maker, maker)

    def test_unknown_maker_after_valid_ones(self):
        good = ("Node", ("+left", "right", "a", "b"))
        for maker in ("", "Wood", "node", "f0"):
            for changes in ([(maker, ())], [good, (maker, ("n",)), ("Leaf", ())], [good, (maker, ()), ("x", ())]):
                with self.assertRaises(NotThere) as caught:
                    self.verdict(changes)
                self.assertEqual(caught.exception.name, maker)

    def test_unknown_start_goes_first(self):
        for changes in ([], [("x", ())], [("Leaf", ())], [("Node", ("+left", "right", "a", "b"))]):
            with self.assertRaises(NotThere) as caught:
                self.verdict(changes, "none")
            self.assertEqual(caught.exception.name, "none")

    def test_against_judge(self):
        for number in range(150):
            chance = seeded(number)
            functions, layout = random_case(chance)
            before = list(layout)
            changes = []
            for maker, spec in chance.sample(before + before, len(before)):
                changes.append((maker, tuple(chance.sample(spec, len(spec)))))
            changed = Layout(layout.kinds, {**dict(before), **dict(changes)})
            for start in functions.names:
                self.assertEqual(what_if(functions, layout, changes, start).lines(),
                                 judge(functions, changed, start).lines())
                self.assertEqual(list(layout), before)


class NeedlessTest(unittest.TestCase):
    def test_no_starts(self):
        functions = wood_functions((("read", "b"), ("read", "a")))
        self.assertEqual(needless(functions, wood_layout("a b left right")), [])
        self.assertEqual(needless(functions, wood_layout("+right a b +left", "+next wood")),
                         ["Node.left", "Node.right", "Full.next"])
        self.assertEqual(needless(functions, Layout.measured(WOOD)), ["Node.left", "Node.right", "Full.wood",
                                                                      "Full.next"])

    def test_one_start(self):
        functions = wood_functions((("call", "f0", "right"),))
        self.assertEqual(needless(functions, wood_layout("a b +left +right"), "f0"), ["Node.right"])
        self.assertEqual(needless(functions, wood_layout("a b +left right", "+wood +next"), "f0"),
                         ["Full.wood", "Full.next"])
        self.assertEqual(needless(functions, wood_layout("+right +left a b"), "f0"), ["Node.left", "Node.right"])
        self.assertEqual(needless(functions, wood_layout("right left a b"), "f0"), [])

    def test_each_mark_alone(self):
        # Either length may go, but not both: the call on left ends only if right can be passed.
        functions = wood_functions((("call", "f1", "left"), ("read", "b")), (("call", "f1", "left"),))
        layout = wood_layout("a +left +right b")
        self.assertEqual(needless(functions, layout, "f0"), ["Node.left"])
        self.assertTrue(judge(functions, layout, "f0").right)

    def test_all_starts_count(self):
        functions = wood_functions((("call", "f0", "left"),), (("call", "f1", "right"),))
        layout = wood_layout("+left +right a b")
        self.assertEqual(needless(functions, layout, "f0"), ["Node.left", "Node.right"])
        self.assertEqual(needless(functions, layout, "f1"), ["Node.right"])
        self.assertEqual(needless(functions, layout, "f0", "f1"), ["Node.right"])
        self.assertEqual(needless(functions, layout, "f1", "f0", "f1"), ["Node.right"])

    def test_layout_that_is_wrong_for_the_second_start(self):
        functions = wood_functions((), (("read", "b"), ("read", "a")), (("call", "f1", "left"),))
        layout = wood_layout("a b +left +right")
        for starts, start, tree in ((("f0", "f1"), "f1", NODE), (("f0", "f2", "f1"), "f2", ("Node", 0, 0, NODE, LEAF)),
                                    (("f1", "f2"), "f1", NODE), (("f2",), "f2", ("Node", 0, 0, NODE, LEAF))):
            with self.assertRaises(WrongLayout) as caught:
                needless(functions, layout, *starts)
            self.assertEqual((caught.exception.start, caught.exception.tree), (start, tree))

    def test_unknown_start_goes_first(self):
        functions = wood_functions((), (("read", "b"), ("read", "a")))
        for starts, name in ((("f1", "x"), "x"), (("y", "f1", "x"), "y"), (("f0", "f1", ""), "")):
            with self.assertRaises(NotThere) as caught:
                needless(functions, wood_layout("a b left right"), *starts)
            self.assertEqual(caught.exception.name, name)

    def test_layout_is_not_changed(self):
        functions = wood_functions(())
        layout = wood_layout("a b +left +right")
        needless(functions, layout, "f0").clear()
        self.assertEqual(list(layout), list(wood_layout("a b +left +right")))
        self.assertEqual(needless(functions, layout, "f0"), ["Node.left", "Node.right"])

    def test_against_the_words(self):
        found = 0
        for number in range(300):
            chance = seeded(number)
            functions, layout = random_case(chance)
            right = [name for name, word in words_of(functions, layout).items() if word != "stuck"]
            starts = chance.sample(right, chance.randint(0, len(right)))
            expected = []
            for mark in layout ^ Layout.plain(layout.kinds):
                after = words_of(functions, layout - mark)
                if all(after[start] != "stuck" for start in starts):
                    expected.append(mark)
            self.assertEqual(needless(functions, layout, *starts), expected)
            found += len(expected)
        self.assertGreater(found, 50)


class RowFunctionTest(unittest.TestCase):
    def test_runs(self):
        functions = wood_functions((("call", "f0", "right"),))
        layout = wood_layout("a b +left right")
        last = RowFunction(functions, layout, "f0")
        self.assertEqual(last.count, 0)
        self.assertEqual(last(pack(layout, ("Node", 1, 2, ("Leaf", 5), ("Leaf", 7)))), (7, [7]))
        self.assertEqual(last.count, 1)
        result = last(pack(layout, ("Leaf", 9)))
        self.assertEqual((result, result.__class__, last.count), ((9, [9]), tuple, 2))
        result[1].clear()
        self.assertEqual((last([0, 9]), last.count), ((9, [9]), 3))
        self.assertIn("__call__", vars(RowFunction))

    def test_count_is_that_of_the_object(self):
        functions = wood_functions(())
        layout = wood_layout("a b left right")
        one, other = RowFunction(functions, layout, "f0"), RowFunction(functions, layout, "f0")
        one([0, 1])
        one([0, 2])
        other([0, 3])
        self.assertEqual((one.count, other.count), (2, 1))

    def test_layout_that_is_changed_afterwards(self):
        functions = wood_functions((("read", "b"),))
        layout = wood_layout("a b left right")
        row = pack(layout, ("Node", 1, 2, ("Leaf", 5), ("Leaf", 7)))
        function = RowFunction(functions, layout, "f0")
        layout["Node"] = ("left", "right", "b", "a")
        self.assertEqual(function(row), (2, [2]))
        layout += "Node.left"
        self.assertEqual(function(row), (2, [2]))
        with self.assertRaises(WrongLayout):
            RowFunction(functions, layout, "f0")

    def test_layout_that_is_not_right(self):
        functions = wood_functions((), (("call", "f2", "left"),), (("read", "b"), ("read", "a")))
        for start, tree in (("f1", ("Node", 0, 0, NODE, LEAF)), ("f2", NODE)):
            with self.assertRaises(WrongLayout) as caught:
                RowFunction(functions, wood_layout("a b left right"), start)
            self.assertEqual((caught.exception.start, caught.exception.tree), (start, tree))

    def test_unknown_start(self):
        for name in UNKNOWN_NAMES:
            with self.assertRaises(NotThere) as caught:
                RowFunction(wood_functions((("read", "b"), ("read", "a"))), wood_layout("a b left right"), name)
            self.assertEqual(caught.exception.name, name)

    def test_row_is_not_changed(self):
        layout = wood_layout("a b left right")
        row = pack(layout, NODE)
        RowFunction(wood_functions(()), layout, "f0")(row)
        self.assertEqual(row, pack(layout, NODE))

    def test_against_run_tree(self):
        ran = 0
        for number in range(150):
            chance = seeded(number)
            functions, layout = random_case(chance)
            for name, word in words_of(functions, layout).items():
                if word == "stuck":
                    continue
                function = RowFunction(functions, layout, name)
                for at in range(4):
                    tree = random_tree(chance, functions.kinds, functions.takes(name), at)
                    self.assertEqual(function(pack(layout, tree)), run_tree(functions, name, tree))
                    ran += 1
                self.assertEqual(function.count, 4)
        self.assertGreater(ran, 300)


if __name__ == "__main__":
    unittest.main()
