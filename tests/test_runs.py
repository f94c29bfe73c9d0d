"""Points 17 to 19, with 1 and 31, for runs.py."""

import inspect
import itertools
import unittest

from bytegrove import runs
from bytegrove.bodies import Functions
from bytegrove.errors import Backward, BadTree, NotThere, Stuck, Unknown
from bytegrove.kinds import Kinds
from bytegrove.layouts import Layout
from bytegrove.rows import pack
from bytegrove.runs import events, run_row, run_tree
from tests.reference import Walk
from tests.samples import CHAIN_ROWS, chain, last_functions, random_case, random_tree, seeded, tree_kinds, wood_kinds

WOOD = wood_kinds()
LEAF = ("Leaf", 5)
NODE = ("Node", 10, 20, ("Leaf", 5), ("Leaf", 7))
# Under a layout of WOOD: a function on Node with this body, and what it may call.
READ_LEAF = (("read", "n"),)


def wood_functions(node, fold="sum"):
    """Return a table: f has the body for Node, read ends on each tree under each layout with lengths, skip reads
    nothing of a node, and so it does not end where a part has no length."""
    every = (("read", "a"), ("read", "b"), ("call", "read", "left"), ("call", "read", "right"))
    return Functions(WOOD, [
        ("f", "Wood", fold, {"Leaf": READ_LEAF, "Node": node}),
        ("read", "Wood", "sum", {"Leaf": READ_LEAF, "Node": every}),
        ("skip", "Wood", "max", {"Leaf": (), "Node": ()}),
        ("box", "Box", "sum", {"Full": (("call", "read", "wood"), ("call", "box", "next")), "Void": (("say", 3),)})])


def wood_layout(*slots):
    return Layout(WOOD, {"Leaf": ("n",), "Node": slots, "Full": ("wood", "next"), "Void": ()})


def run_node(node, slots, tree=NODE):
    """Run a body for Node on the packed row of a tree."""
    layout = wood_layout(*slots.split())
    return run_row(wood_functions(node), layout, "f", pack(layout, tree))


def list_events(functions, layout, name, row):
    """Return the events and the error or None."""
    found = []
    try:
        for event in events(functions, layout, name, row):
            found.append(event)
    except Stuck as error:
        return found, error
    return found, None


class RunTreeTest(unittest.TestCase):
    def test_answer_and_prints(self):
        functions = last_functions(tree_kinds())
        self.assertEqual(run_tree(functions, "last", ("Node", ("Leaf", 5), ("Leaf", 7))), (7, [7]))
        self.assertEqual(run_tree(functions, "last", ("Leaf", 0)), (0, [0]))

    def test_folds(self):
        body = (("read", "b"), ("say", 15), ("read", "a"))
        self.assertEqual(run_tree(wood_functions(body), "f", NODE), (45, [20, 15, 10]))
        self.assertEqual(run_tree(wood_functions(body, "max"), "f", NODE), (20, [20, 15, 10]))
        body = (("say", 1000), ("say", 1000), ("read", "a"))
        self.assertEqual(run_tree(wood_functions(body), "f", NODE), (2010, [1000, 1000, 10]))
        self.assertEqual(run_tree(wood_functions(body, "max"), "f", NODE), (1000, [1000, 1000, 10]))

    def test_no_taken_numbers(self):
        for fold in ("sum", "max"):
            for body in ((), (("if", "a", 5, (), ()),)):
                self.assertEqual(run_tree(wood_functions(body, fold), "f", NODE), (0, []))

    def test_taken_zeros(self):
        for fold in ("sum", "max"):
            body = (("say", 0), ("call", "skip", "left"))
            self.assertEqual(run_tree(wood_functions(body, fold), "f", NODE), (0, [0]))

    def test_calls_take_the_answer_and_print_in_order(self):
        tree = ("Node", 1, 2, NODE, ("Leaf", 9))
        body = (("say", 100), ("call", "read", "right"), ("read", "a"), ("call", "read", "left"), ("say", 0))
        prints = [100, 9, 1, 10, 20, 5, 7, 0]
        self.assertEqual(run_tree(wood_functions(body), "f", tree), (152, prints))
        self.assertEqual(run_tree(wood_functions(body, "max"), "f", tree), (100, prints))
        self.assertEqual(run_tree(wood_functions(body[1:], "max"), "f", tree), (42, prints[1:]))

    def test_answer_is_no_print(self):
        body = (("call", "skip", "left"), ("call", "f", "right"))
        self.assertEqual(run_tree(wood_functions(body), "f", NODE), (7, [7]))

    def test_if(self):
        body = (("say", 1), ("if", "a", 10, (("say", 2), ("read", "b")), (("call", "read", "left"),)))
        functions = wood_functions(body)
        for byte, expected in ((0, (23, [1, 2, 20])), (9, (23, [1, 2, 20])), (10, (6, [1, 5])), (255, (6, [1, 5]))):
            self.assertEqual(run_tree(functions, "f", ("Node", byte, 20, LEAF, LEAF)), expected)

    def test_nested_ifs(self):
        inner = ("if", "b", 255, (("say", 1),), (("say", 2),))
        functions = wood_functions((("if", "a", 1, (inner,), (("say", 3), inner)),))
        for a, b, prints in ((0, 0, [1]), (0, 255, [2]), (1, 254, [3, 1]), (255, 255, [3, 2])):
            self.assertEqual(run_tree(functions, "f", ("Node", a, b, LEAF, LEAF)), (sum(prints), prints))

    def test_other_kinds(self):
        tree = ("Full", NODE, ("Full", LEAF, ("Void",)))
        self.assertEqual(run_tree(wood_functions(()), "box", tree), (50, [10, 20, 5, 7, 5, 3]))

    def test_depth_of_40(self):
        functions = Functions(Kinds(CHAIN_ROWS), [("f", "Chain", "sum", {
            "End": (("say", 1),), "Link": (("say", 2), ("call", "f", "next"))})])
        self.assertEqual(run_tree(functions, "f", chain(40)), (79, [2] * 39 + [1]))
        for levels in (41, 60):
            with self.assertRaises(BadTree):
                run_tree(functions, "f", chain(levels))

    def test_values_that_are_no_tree_of_the_kind(self):
        functions = wood_functions(())
        for value in ((), 5, True, "Leaf", ("Leaf",), ("Leaf", 256), ("Leaf", -1), ("Leaf", True), ("Leaf", 5, 5),
                      ("Node", 1, 2, LEAF), ("Node", 1, LEAF, 2, LEAF), ("Void",), ("Full", LEAF, ("Void",)),
                      ("Wood", 5), (("Leaf", 5),), ("Node", 1, 2, LEAF, ("Void",))):
            with self.assertRaises(BadTree):
                run_tree(functions, "f", value)
        with self.assertRaises(BadTree):
            run_tree(functions, "box", LEAF)
        self.assertEqual(run_tree(functions, "box", ("Void",)), (3, [3]))

    def test_unknown_function_goes_before_a_bad_tree(self):
        for name in ("", "F", "Wood", "none"):
            for value in (LEAF, (), 5, ("Void",), ("Leaf", 256)):
                with self.assertRaises(NotThere) as caught:
                    run_tree(wood_functions(()), name, value)
                self.assertEqual(caught.exception.name, name)

    def test_returned_prints_are_new(self):
        functions = last_functions(tree_kinds())
        result = run_tree(functions, "last", ("Leaf", 7))
        self.assertIs(result.__class__, tuple)
        result[1].append(1)
        self.assertEqual(run_tree(functions, "last", ("Leaf", 7)), (7, [7]))


class RunRowTest(unittest.TestCase):
    def test_all_asked(self):
        body = (("read", "a"), ("read", "b"), ("call", "read", "left"), ("call", "read", "right"))
        for slots, length in (("a b left right", 7), ("a b +left right", 9), ("a b +left +right", 11)):
            self.assertEqual(run_node(body, slots), (42, [10, 20, 5, 7], length))

    def test_in_the_order_of_the_spec(self):
        body = (("call", "read", "right"), ("read", "b"), ("call", "read", "left"), ("read", "a"))
        self.assertEqual(run_node(body, "right b left a"), (42, [7, 20, 5, 10], 7))

    def test_parts_are_passed(self):
        self.assertEqual(run_node((("read", "b"),), "+left a +right b"), (20, [20], 11))
        self.assertEqual(run_node((("call", "read", "right"),), "a +left b right"), (7, [7], 9))
        self.assertEqual(run_node((("read", "a"),), "a b +left +right"), (10, [10], 11))
        self.assertEqual(run_node((), "a +left b +right"), (0, [], 11))

    def test_say_moves_nothing(self):
        self.assertEqual(run_node((("say", 1), ("read", "b"), ("say", 2)), "a +left +right b"), (23, [1, 20, 2], 11))

    def test_index_is_none_where_a_part_without_length_is_left(self):
        self.assertEqual(run_node((), "a b left right"), (0, [], None))
        self.assertEqual(run_node((("read", "a"),), "a b left +right"), (10, [10], None))
        self.assertEqual(run_node((("read", "a"),), "a +right b left"), (10, [10], None))
        self.assertEqual(run_node((("call", "read", "left"),), "left a b right"), (5, [5], None))
        self.assertEqual(run_node((("call", "read", "left"),), "left a b +right"), (5, [5], 9))

    def test_index_is_none_behind_a_call_that_does_not_end(self):
        inner = ("Node", 10, 20, NODE, LEAF)
        self.assertEqual(run_node((("read", "a"), ("call", "skip", "left")), "+right b a left", inner),
                         (10, [10], None))
        # On a leaf the same call ends.
        self.assertEqual(run_node((("read", "a"), ("call", "skip", "left")), "+right b a left"), (10, [10], 9))
        # Nothing is left behind the part, or only a byte, or a part with a length.
        for slots in ("a +right b left", "a left b +right", "a +right left b"):
            self.assertEqual(run_node((("call", "skip", "left"),), slots, inner), (0, [], None))

    def test_call_on_a_measured_part_that_does_not_end(self):
        inner = ("Node", 10, 20, NODE, LEAF)
        body = (("call", "skip", "left"), ("read", "a"))
        self.assertEqual(run_node(body, "+left b a +right", inner), (10, [10], 20))
        self.assertEqual(run_node(body, "+left b a right", inner), (10, [10], None))
        self.assertEqual(run_node((("call", "skip", "left"),), "+right b a +left", inner), (0, [], 20))

    def test_say_behind_a_call_that_does_not_end(self):
        body = (("call", "skip", "left"), ("say", 8))
        self.assertEqual(run_node(body, "left a b +right", ("Node", 10, 20, NODE, LEAF)), (8, [8], None))

    def test_leaves(self):
        self.assertEqual(run_node((), "a b left right", LEAF), (5, [5], 2))
        layout = wood_layout("a", "b", "left", "right")
        self.assertEqual(run_row(wood_functions(()), layout, "skip", [0, 9]), (0, [], 2))
        self.assertEqual(run_row(wood_functions(()), layout, "box", [1]), (3, [3], 1))

    def test_lengths_above_255(self):
        tree = LEAF
        for _ in range(7):
            tree = ("Node", 1, 2, tree, tree)
        tree = ("Node", 3, 4, tree, ("Leaf", 6))
        layout = wood_layout("+left", "+right", "a", "b")
        row = pack(layout, tree)
        self.assertGreater(row[1], 0)
        for body, answer in (((("call", "f", "right"), ("read", "b")), 10), ((), 0), ((("read", "a"),), 3),
                             ((("call", "skip", "left"), ("read", "a")), 3)):
            found = run_row(wood_functions(body), layout, "f", row)
            self.assertEqual((found[0], found[2]), (answer, len(row)))

    def test_depth_of_40(self):
        functions = Functions(Kinds(CHAIN_ROWS), [("f", "Chain", "sum", {
            "End": (("say", 1),), "Link": (("say", 2), ("call", "f", "next"))})])
        for layout in (Layout.plain(functions.kinds), Layout.measured(functions.kinds)):
            row = pack(layout, chain(40))
            self.assertEqual(run_row(functions, layout, "f", row), (79, [2] * 39 + [1], len(row)))

    def test_arguments_are_not_changed(self):
        layout = wood_layout("+left", "a", "b", "right")
        row = pack(layout, NODE)
        before = (list(row), list(layout))
        functions = wood_functions((("call", "skip", "left"), ("call", "f", "right")))
        result = run_row(functions, layout, "f", row)
        list(events(functions, layout, "f", row))
        self.assertEqual((row, list(layout)), before)
        self.assertIs(result.__class__, tuple)
        result[1].clear()
        self.assertEqual(run_row(functions, layout, "f", row), (7, [7], 9))

    def test_unknown_function(self):
        layout = wood_layout("a", "b", "left", "right")
        for name in ("", "F", "Wood", "none"):
            for row in ([0, 5], [], [9]):
                with self.assertRaises(NotThere) as caught:
                    run_row(wood_functions(()), layout, name, row)
                self.assertEqual(caught.exception.name, name)


class StuckTest(unittest.TestCase):
    def check(self, error, node, slots, tree=NODE):
        """Check the error: its class, its function, maker and part, and the blocker of an Unknown."""
        with self.assertRaises(Stuck) as caught:
            run_node(node, slots, tree)
        found = caught.exception
        told = (found.function, found.maker, found.part)
        if isinstance(found, Unknown):
            told = told + (found.blocker,)
        self.assertEqual((found.__class__,) + told, error)

    def test_backward(self):
        self.check((Backward, "f", "Node", "a"), (("read", "b"), ("read", "a")), "a b +left +right")
        self.check((Backward, "f", "Node", "a"), (("read", "b"), ("if", "a", 5, (), ())), "a b +left +right")
        self.check((Backward, "f", "Node", "left"), (("read", "a"), ("call", "read", "left")), "+left a b right")
        # The part itself was passed, and nothing behind it was asked but the next part.
        self.check((Backward, "f", "Node", "b"), (("call", "read", "left"), ("read", "b")), "a b left right")

    def test_unknown_behind_an_unasked_part(self):
        self.check((Unknown, "f", "Node", "a", "left"), (("read", "a"),), "left a b right")
        self.check((Unknown, "f", "Node", "right", "left"), (("call", "read", "right"),), "a b left right")
        self.check((Unknown, "f", "Node", "b", "left"), (("read", "a"), ("read", "b")), "a +right left b")
        # The first such part is the blocker.
        self.check((Unknown, "f", "Node", "b", "left"), (("read", "b"),), "a left right b")
        self.check((Unknown, "f", "Node", "b", "right"), (("read", "b"),), "a right left b")

    def test_unknown_behind_a_call_that_does_not_end(self):
        inner = ("Node", 10, 20, NODE, LEAF)
        body = (("call", "skip", "left"), ("read", "a"))
        self.check((Unknown, "f", "Node", "a", "left"), body, "left a b +right", inner)
        self.check((Unknown, "f", "Node", "a", "left"), body, "left +right b a", inner)
        self.assertEqual(run_node(body, "left a b +right"), (10, [10], 9))

    def test_first_rule_goes_before_the_second(self):
        inner = ("Node", 10, 20, NODE, LEAF)
        self.check((Backward, "f", "Node", "a"), (("call", "skip", "left"), ("read", "a")), "a left b right", inner)

    def test_second_rule_goes_before_the_third(self):
        inner = ("Node", 10, 20, NODE, LEAF)
        self.check((Unknown, "f", "Node", "b", "left"), (("call", "skip", "left"), ("read", "b")), "left right b a",
                   inner)
        self.check((Unknown, "f", "Node", "b", "right"), (("call", "skip", "left"), ("read", "b")), "left right b a")

    def test_deeper_in(self):
        tree = ("Node", 1, 2, ("Leaf", 3), ("Node", 1, 2, LEAF, LEAF))
        body = (("if", "a", 1, (), (("call", "f", "left"), ("call", "f", "right"))),)
        self.assertEqual(run_node(body, "a b left right", tree), (13, [3, 5, 5], 12))
        with self.assertRaises(Backward) as caught:
            functions = Functions(WOOD, [("g", "Wood", "sum", {"Leaf": (), "Node": (("call", "h", "right"),)}),
                                         ("h", "Wood", "sum", {"Leaf": (), "Node": (("read", "b"), ("read", "a"))})])
            layout = wood_layout("a", "b", "+left", "right")
            run_row(functions, layout, "g", pack(layout, tree))
        self.assertEqual((caught.exception.function, caught.exception.maker, caught.exception.part), ("h", "Node", "a"))

    def test_attributes_of_backward(self):
        with self.assertRaises(Backward) as caught:
            run_node((("read", "b"), ("read", "a")), "a b left right")
        self.assertFalse(hasattr(caught.exception, "blocker"))


class EventsTest(unittest.TestCase):
    def events_of(self, node, slots, tree=NODE):
        layout = wood_layout(*slots.split())
        return list_events(wood_functions(node), layout, "f", pack(layout, tree))

    def check(self, expected, node, slots, tree=NODE):
        self.assertEqual(self.events_of(node, slots, tree), (expected, None))

    def test_is_a_generator(self):
        self.assertTrue(inspect.isgeneratorfunction(runs.events))
        layout = wood_layout("a", "b", "left", "right")
        self.assertTrue(inspect.isgenerator(events(wood_functions(()), layout, "f", [0, 5])))

    def test_tag_and_byte(self):
        self.check([("tag", 0, "Leaf"), ("byte", 1, 5)], (), "a b left right", LEAF)
        self.check([("tag", 0, "Node"), ("byte", 1, 10), ("byte", 2, 20)],
                   (("read", "a"), ("if", "b", 30, (("say", 5),), ())), "a b left right")

    def test_call_without_length(self):
        self.check([("tag", 0, "Node"), ("tag", 1, "Leaf"), ("byte", 2, 5), ("byte", 3, 10)],
                   (("call", "read", "left"), ("read", "a")), "left a b right")

    def test_length(self):
        self.check([("tag", 0, "Node"), ("length", 1, 2), ("tag", 3, "Leaf"), ("byte", 4, 5), ("byte", 5, 10)],
                   (("call", "read", "left"), ("read", "a")), "+left a b right")

    def test_passed_parts(self):
        self.check([("tag", 0, "Node"), ("jump", 1, 2), ("length", 2, 2), ("jump", 4, 6), ("jump", 6, 7),
                    ("length", 7, 2), ("tag", 9, "Leaf"), ("byte", 10, 7)],
                   (("call", "read", "right"),), "a +left b +right")

    def test_parts_that_are_left(self):
        self.check([("tag", 0, "Node"), ("byte", 1, 10), ("jump", 2, 3), ("length", 3, 2), ("jump", 5, 7),
                    ("length", 7, 2), ("jump", 9, 11)], (("read", "a"),), "a b +left +right")
        self.check([("tag", 0, "Node"), ("byte", 1, 10)], (("read", "a"),), "a b +left right")
        self.check([("tag", 0, "Leaf"), ("byte", 1, 5)], (), "a b left right", LEAF)

    def test_move_to_the_end_of_a_part(self):
        inner = ("Node", 10, 20, NODE, LEAF)
        layout = wood_layout("+left", "a", "b", "right")
        functions = wood_functions((("call", "skip", "left"), ("read", "a")))
        row = pack(layout, inner)
        # The inner call stops behind the tag at 3: the part of nine bytes goes on up to 12.
        self.assertEqual(list_events(functions, layout, "f", row)[0],
                         [("tag", 0, "Node"), ("length", 1, 9), ("tag", 3, "Node"), ("jump", 4, 12), ("byte", 12, 10)])

    def test_no_move_where_the_call_ends(self):
        self.check([("tag", 0, "Node"), ("length", 1, 2), ("tag", 3, "Leaf"), ("jump", 4, 5), ("byte", 5, 10)],
                   (("call", "skip", "left"), ("read", "a")), "+left a b right")

    def test_long_lengths(self):
        tree = LEAF
        for _ in range(7):
            tree = ("Node", 1, 2, tree, tree)
        tree = ("Node", 3, 4, tree, ("Leaf", 6))
        layout = wood_layout("+left", "right", "a", "b")
        row = pack(layout, tree)
        length = row[1] * 256 + row[2]
        self.assertEqual(list_events(wood_functions((("call", "skip", "right"),)), layout, "f", row)[0],
                         [("tag", 0, "Node"), ("length", 1, length), ("jump", 3, 3 + length),
                          ("tag", 3 + length, "Leaf"), ("jump", 4 + length, 5 + length),
                          ("jump", 5 + length, 6 + length), ("jump", 6 + length, 7 + length)])

    def test_events_in_front_of_an_error(self):
        found, error = self.events_of((("read", "b"), ("read", "a")), "a b left right")
        self.assertEqual(found, [("tag", 0, "Node"), ("jump", 1, 2), ("byte", 2, 20)])
        self.assertEqual((error.__class__, error.function, error.maker, error.part), (Backward, "f", "Node", "a"))
        found, error = self.events_of((("read", "b"),), "a +left right b")
        self.assertEqual(found, [("tag", 0, "Node"), ("jump", 1, 2), ("length", 2, 2), ("jump", 4, 6)])
        self.assertEqual((error.__class__, error.part, error.blocker), (Unknown, "b", "right"))
        found, error = self.events_of((("read", "b"),), "left right b a")
        self.assertEqual((found, error.blocker), ([("tag", 0, "Node")], "left"))
        inner = ("Node", 10, 20, NODE, LEAF)
        found, error = self.events_of((("call", "skip", "left"), ("read", "b")), "left a b right", inner)
        self.assertEqual((found, error.blocker), ([("tag", 0, "Node"), ("tag", 1, "Node")], "left"))

    def test_error_comes_after_the_last_event(self):
        layout = wood_layout("left", "right", "b", "a")
        steps = events(wood_functions((("read", "b"),)), layout, "f", pack(layout, NODE))
        self.assertEqual(next(steps), ("tag", 0, "Node"))
        with self.assertRaises(Unknown):
            next(steps)

    def test_unknown_function_is_raised_when_the_first_event_is_taken(self):
        layout = wood_layout("a", "b", "left", "right")
        for row in ([0, 5], [], [9]):
            steps = events(wood_functions(()), layout, "none", row)
            with self.assertRaises(NotThere) as caught:
                next(steps)
            self.assertEqual(caught.exception.name, "none")

    def test_events_are_tuples(self):
        layout = wood_layout("a", "b", "+left", "+right")
        for event in events(wood_functions(()), layout, "f", pack(layout, NODE)):
            self.assertIs(event.__class__, tuple)


class RandomTest(unittest.TestCase):
    def test_against_the_rules(self):
        seen = {}
        for number in range(1500):
            chance = seeded(number)
            functions, layout = random_case(chance, 2, 4, 3)
            for name in functions.names:
                tree = random_tree(chance, functions.kinds, functions.takes(name), chance.randint(0, 4))
                kind = self.check(functions, layout, name, tree)
                seen[kind] = seen.get(kind, 0) + 1
        for kind in ("Backward", "Unknown", "ended", "unended"):
            self.assertGreater(seen[kind], 30, seen)

    def check(self, functions, layout, name, tree):
        """Check a run against the rules. Return how it went."""
        row = pack(layout, tree)
        walk = Walk(functions, layout, row)
        answer, end = walk.start(name)
        found, error = list_events(functions, layout, name, row)
        self.assertEqual(found, walk.events)
        if walk.stuck is not None:
            told = (error.__class__.__name__, error.function, error.maker, error.part)
            self.assertEqual(told + ((error.blocker,) if told[0] == "Unknown" else ()), walk.stuck)
            with self.assertRaises(error.__class__):
                run_row(functions, layout, name, row)
            return told[0]
        self.assertIsNone(error)
        self.assertEqual(run_row(functions, layout, name, row), (answer, walk.prints, end))
        self.assertEqual(run_tree(functions, name, tree), (answer, walk.prints))
        self.check_cursor(found, row)
        if end is None:
            return "unended"
        self.assertEqual(end, len(row))
        return "ended"

    def check_cursor(self, found, row):
        """Check that the cursor never moves back and that no byte is read twice."""
        read = []
        cursor = 0
        for word, at, what in found:
            self.assertEqual(at, cursor)
            if word == "jump":
                self.assertGreater(what, at)
                cursor = what
            else:
                read.extend([at, at + 1] if word == "length" else [at])
                cursor = at + (2 if word == "length" else 1)
            if word == "byte":
                self.assertEqual(what, row[at])
        self.assertEqual(len(read), len(set(read)))

    def test_each_spec_of_a_node(self):
        body = (("read", "a"), ("call", "skip", "left"), ("read", "b"))
        functions = wood_functions(body)
        for tree in (NODE, ("Node", 10, 20, NODE, LEAF), ("Node", 10, 20, LEAF, NODE)):
            for order in itertools.permutations(("a", "b", "left", "right")):
                for pluses in itertools.product(("", "+"), repeat=2):
                    slots = {"a": "a", "b": "b", "left": pluses[0] + "left", "right": pluses[1] + "right"}
                    self.check(functions, wood_layout(*[slots[part] for part in order]), "f", tree)


if __name__ == "__main__":
    unittest.main()
