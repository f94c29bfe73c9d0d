"""Points 13 to 16, with 1 and 31, for bodies.py."""

import itertools
import unittest

from bytegrove.bodies import Functions
from bytegrove.errors import BadFunctions, NotThere
from bytegrove.kinds import Kinds
from tests.samples import WOOD_ROWS, last_functions, random_case, seeded, tree_kinds, wood_kinds

KINDS = wood_kinds()
SAY = ("say", 1)
GOOD_NAMES = ["a", "Z", "a1", "a" * 24, "byte", "Wood", "Leaf", "n", "sum", "read"]
BAD_NAMES = ["", "a" * 25, "1", "1a", "a_b", "_a", "a b", " a", "a ", "a.b", "+a", "a\n", "@"]


def wood_row(name="f", node=(), leaf=(), kind="Wood", fold="sum", **other):
    """Return the row of a function on wood."""
    return (name, kind, fold, {"Leaf": leaf, "Node": node, **other})


def box_row(name="g", full=(), void=()):
    """Return the row of a function on boxes."""
    return (name, "Box", "max", {"Full": full, "Void": void})


class TableTest(unittest.TestCase):
    def row_of(self, rows):
        """Return the row that BadFunctions tells for the rows."""
        with self.assertRaises(BadFunctions) as caught:
            Functions(KINDS, rows)
        return caught.exception.row

    def good(self, node):
        """Check that a body of Node is valid, and that it is returned as it was passed in."""
        functions = Functions(KINDS, [wood_row(), wood_row("h", node), box_row()])
        self.assertEqual(functions.body("h", "Node"), node)

    def bad(self, node):
        """Check that a body of Node is not valid in the first pass."""
        self.assertEqual(self.row_of([wood_row(), wood_row("h", node), box_row(), wood_row("i")]), 1, node)
        # In the second pass the row in front would count first.
        self.assertEqual(self.row_of([wood_row("f", (("call", "none", "left"),)), wood_row("h", node)]), 1, node)


class StepsTest(TableTest):
    def test_each_form(self):
        self.good(())
        self.good((("read", "a"),))
        self.good((("call", "h", "left"),))
        self.good((("say", 7),))
        self.good((("if", "a", 5, (), ()),))
        self.good((("say", 7), ("read", "b"), ("call", "f", "right"), ("call", "h", "left"), SAY,
                   ("if", "a", 5, (SAY, SAY), (SAY,))))

    def test_twelve_and_thirteen_steps(self):
        self.good((SAY,) * 12)
        self.bad((SAY,) * 13)
        self.good((SAY,) * 11 + (("read", "a"),))
        self.bad((SAY,) * 12 + (("read", "a"),))
        self.good((SAY,) * 11 + (("if", "a", 5, (), ()),))
        self.bad((SAY,) * 12 + (("if", "a", 5, (), ()),))
        for at in (3, 4):
            for count, check in ((12, self.good), (13, self.bad)):
                step = ["if", "a", 5, (), ()]
                step[at] = (SAY,) * count
                check((SAY,) * 11 + (tuple(step),))
                check((("if", "b", 9, (), (tuple(step),)),))

    def test_numbers(self):
        for number in (0, 1, 999, 1000):
            self.good((("say", number),))
        for number in (-1, 1001, 10 ** 9, "1", None, ()):
            self.bad((("say", number),))
            self.bad((("if", "a", 5, (), (("say", number),)),))

    def test_bounds(self):
        for bound in (1, 2, 254, 255):
            self.good((("if", "a", bound, (), ()),))
        for bound in (0, 256, -1, 1000, "1", None, ()):
            self.bad((("if", "a", bound, (), ()),))
            self.bad((("if", "b", 9, (("if", "a", bound, (), ()),), ()),))

    def test_unknown_words(self):
        for word in ("", "Read", "reads", "else", "a", "sum", "IF", "call ", 0, None, ()):
            for step in ((word,), (word, "a"), (word, 5), (word, "h", "left"), (word, "a", 5, (), ())):
                self.bad((step,))

    def test_an_item_too_many_and_too_few(self):
        for step in (("read", "a"), ("call", "h", "left"), ("say", 7), ("if", "a", 5, (), ())):
            self.good((step,))
            self.bad((step[:-1],))
            self.bad((step + step[-1:],))
            self.bad((step[:1],))
            self.bad((SAY, step + ((),)))

    def test_items_of_another_form(self):
        for step in (("read", 5), ("say", "a"), ("call", "left", "h"), ("call", "h", 5), ("if", 5, "a", (), ()),
                     ("if", "a", (), (), 5), ("if", "a", 5, 5, ()), ("if", "a", 5, (), 5)):
            self.bad((step,))

    def test_if_is_the_last_step(self):
        step = ("if", "a", 5, (), ())
        self.good((SAY, step))
        self.bad((step, SAY))
        self.bad((step, step))
        self.bad((step, ("read", "b")))
        self.good((("if", "b", 5, (SAY, step), (SAY, step)),))
        self.bad((("if", "b", 5, (step, SAY), ()),))
        self.bad((("if", "b", 5, (), (step, SAY)),))

    def test_part_asked_twice_on_a_path(self):
        branch = ("if", "a", 5, (), ())
        self.bad((("read", "a"), ("read", "a")))
        self.bad((("read", "a"), SAY, branch))
        self.bad((("call", "h", "left"), ("call", "h", "left")))
        self.bad((("call", "h", "left"), ("call", "f", "right"), ("call", "f", "left")))
        for inner in (("read", "a"), branch):
            self.bad((("if", "a", 5, (inner,), ()),))
            self.bad((("if", "a", 5, (), (inner,)),))
            self.bad((("if", "b", 5, (branch,), (("if", "a", 5, (), (inner,)),)),))
        self.bad((("read", "a"), ("if", "b", 5, (), (("read", "a"),))))
        self.bad((("call", "h", "left"), ("if", "b", 5, (("call", "h", "left"),), ())))

    def test_part_asked_once_on_each_of_two_paths(self):
        for step in (("read", "b"), ("call", "h", "left"), ("if", "b", 1, (), ())):
            self.good((("if", "a", 5, (step,), (step,)),))
        self.good((("if", "a", 5, (("read", "b"), ("call", "h", "left")), (("call", "f", "left"), ("read", "b"))),))

    def test_parts_of_the_other_sort(self):
        for part in ("left", "right"):
            self.bad((("read", part),))
            self.bad((("if", part, 5, (), ()),))
        for part in ("a", "b"):
            self.bad((("call", "h", part),))

    def test_parts_that_are_not_there(self):
        for part in ("n", "", "c", "A", "Left", "+left", "Node.left", "wood", "Leaf", "byte"):
            self.bad((("read", part),))
            self.bad((("if", part, 5, (), ()),))
            self.bad((("call", "h", part),))
            self.bad((("if", "a", 5, (("read", part),), ()),))

    def test_parts_are_those_of_the_maker(self):
        Functions(KINDS, [wood_row("f", leaf=(("read", "n"),))])
        self.assertEqual(self.row_of([wood_row("f", leaf=(("read", "a"),))]), 0)
        self.assertEqual(self.row_of([box_row("f", void=(("call", "f", "next"),))]), 0)

    def test_deep_branches(self):
        body = ()
        for _ in range(40):
            body = (("if", "a", 5, body, body),)
        self.bad(body)


class FirstPassTest(TableTest):
    def test_numbers_of_rows(self):
        rows = [wood_row("f%d" % at) for at in range(9)]
        self.assertEqual(self.row_of([]), 0)
        for count in (1, 5, 6):
            self.assertEqual(len(Functions(KINDS, rows[:count]).names), count)
        self.assertEqual(self.row_of(rows[:7]), 6)
        self.assertEqual(self.row_of(rows), 6)

    def test_names(self):
        for name in GOOD_NAMES:
            self.assertEqual(Functions(KINDS, [wood_row("x"), wood_row(name)]).names, ("x", name))
        for name in BAD_NAMES:
            self.assertEqual(self.row_of([wood_row("x"), wood_row(name)]), 1, name)

    def test_second_row_with_a_name(self):
        self.assertEqual(self.row_of([wood_row("f"), wood_row("g"), wood_row("f")]), 2)
        self.assertEqual(self.row_of([wood_row("f"), box_row("f")]), 1)
        Functions(KINDS, [wood_row("f"), wood_row("F")])

    def test_kinds(self):
        for kind in ("", "wood", "Leaf", "byte", "n", "Tree"):
            self.assertEqual(self.row_of([wood_row("x"), wood_row("f", kind=kind)]), 1, kind)
        self.assertEqual(self.row_of([wood_row("f", kind="Box")]), 0)

    def test_folds(self):
        for fold in ("sum", "max"):
            Functions(KINDS, [wood_row("f", fold=fold)])
        for fold in ("", "min", "Sum", "sum ", "f"):
            self.assertEqual(self.row_of([wood_row("x"), wood_row("f", fold=fold)]), 1, fold)

    def test_maker_left_out_and_too_many(self):
        for bodies in ({}, {"Leaf": ()}, {"Node": ()}, {"Leaf": (), "Node": (), "Full": ()},
                       {"Leaf": (), "Node": (), "x": ()}, {"Leaf": (), "node": ()}, {"Leaf": (), "Full": ()},
                       {"Full": (), "Void": ()}, {"Leaf": (), "Node": (), "": ()}):
            self.assertEqual(self.row_of([wood_row("x"), ("f", "Wood", "sum", bodies)]), 1, bodies)

    def test_body_of_each_maker_is_checked(self):
        self.assertEqual(self.row_of([wood_row("f", leaf=(("read", "x"),))]), 0)
        self.assertEqual(self.row_of([box_row("f"), box_row("g", void=(("read", "x"),))]), 1)
        self.assertEqual(self.row_of([box_row("f"), box_row("g", full=(("read", "wood"),))]), 1)

    def test_earlier_row_counts_first(self):
        rows = [wood_row("f%d" % at) for at in range(8)]
        bad_name, bad_fold = wood_row("1"), wood_row("g", fold="min")
        self.assertEqual(self.row_of([rows[0], bad_fold, bad_name]), 1)
        self.assertEqual(self.row_of([rows[0], bad_name, bad_fold]), 1)
        self.assertEqual(self.row_of(rows[:5] + [bad_fold] + rows[5:]), 5)
        self.assertEqual(self.row_of(rows[:6] + [bad_fold]), 6)
        self.assertEqual(self.row_of([bad_fold] + rows), 0)


class SecondPassTest(TableTest):
    def test_function_that_is_not_in_the_table(self):
        for name in ("", "none", "F", "Wood", "left", "f "):
            step = ("call", name, "left")
            self.assertEqual(self.row_of([wood_row("f"), wood_row("g", (step,))]), 1, name)
            self.assertEqual(self.row_of([wood_row("f"), wood_row("g", (("if", "a", 5, (), (SAY, step)),))]), 1)
            self.assertEqual(self.row_of([wood_row("f", (("if", "a", 5, (step,), ()),)), wood_row("g")]), 0)

    def test_function_that_takes_another_kind(self):
        rows = [wood_row("f"), box_row("g")]
        self.assertEqual(self.row_of(rows + [box_row("h", (("call", "f", "next"),))]), 2)
        self.assertEqual(self.row_of(rows + [box_row("h", (("call", "g", "wood"),))]), 2)
        self.assertEqual(self.row_of(rows + [wood_row("h", (("call", "g", "left"),))]), 2)
        Functions(KINDS, rows + [box_row("h", (("call", "f", "wood"), ("call", "g", "next")))])

    def test_functions_of_later_rows(self):
        rows = [wood_row("f", (("call", "g", "left"), ("call", "f", "right"))), wood_row("g")]
        self.assertEqual(Functions(KINDS, rows).names, ("f", "g"))
        self.assertEqual(self.row_of(rows[:1]), 0)

    def test_first_such_row(self):
        wrong = (("call", "none", "left"),)
        self.assertEqual(self.row_of([wood_row("f"), wood_row("g", wrong), wood_row("h", wrong)]), 1)

    def test_first_pass_counts_first(self):
        wrong = wood_row("f", (("call", "none", "left"),))
        self.assertEqual(self.row_of([wrong, wood_row("g", fold="min")]), 1)
        self.assertEqual(self.row_of([wrong, wood_row("g"), wood_row("g")]), 2)
        self.assertEqual(self.row_of([wrong] + [wood_row("f%d" % at) for at in range(6)]), 6)
        other_kind = wood_row("g", (("call", "h", "left"),))
        self.assertEqual(self.row_of([other_kind, box_row("h"), box_row("i", (SAY,) * 13)]), 2)

    def test_call_of_an_unknown_function_on_a_wrong_part_fails_in_the_first_pass(self):
        self.assertEqual(self.row_of([wood_row("f", (("call", "none", "left"),)),
                                      wood_row("g", (("call", "none", "a"),))]), 1)


class PathsTest(unittest.TestCase):
    def paths(self, body):
        return Functions(KINDS, [wood_row("f", body), wood_row("g")]).paths("f", "Node")

    def test_without_if(self):
        self.assertEqual(self.paths(()), [()])
        self.assertEqual(self.paths((SAY, SAY)), [()])
        self.assertEqual(self.paths((SAY, ("read", "b"), ("call", "g", "right"), SAY, ("read", "a"))),
                         [(("b", "", 0), ("right", "g", 0), ("a", "", 0))])

    def test_if(self):
        self.assertEqual(self.paths((("if", "a", 5, (), ()),)), [(("a", "", 0),), (("a", "", 5),)])
        self.assertEqual(self.paths((("call", "f", "left"), ("if", "b", 255, (("read", "a"),), (SAY,)))),
                         [(("left", "f", 0), ("b", "", 0), ("a", "", 0)), (("left", "f", 0), ("b", "", 255))])

    def test_nested_ifs(self):
        inner = ("if", "b", 7, (("call", "f", "left"),), (("call", "g", "right"),))
        a, other_a = ("a", "", 0), ("a", "", 5)
        b, other_b = ("b", "", 0), ("b", "", 7)
        left, right = ("left", "f", 0), ("right", "g", 0)
        self.assertEqual(self.paths((("if", "a", 5, (inner,), (inner,)),)),
                         [(a, b, left), (a, other_b, right), (other_a, b, left), (other_a, other_b, right)])
        self.assertEqual(self.paths((("if", "a", 5, (("call", "g", "right"), inner[:4] + ((),)), ()),)),
                         [(a, right, b, left), (a, right, other_b), (other_a,)])
        self.assertEqual(self.paths((("if", "a", 5, (), (SAY, inner)),)),
                         [(a,), (other_a, b, left), (other_a, other_b, right)])

    def test_sixteen_paths(self):
        kinds = Kinds([("K", "M", tuple((part, "byte") for part in "abcd"))])
        body = ()
        for at, part in enumerate("dcba"):
            body = (("if", part, 4 - at, body, body),)
        paths = Functions(kinds, [("f", "K", "sum", {"M": body})]).paths("f", "M")
        lows = itertools.product((0, 1), (0, 2), (0, 3), (0, 4))
        self.assertEqual(paths, [tuple(zip("abcd", ("",) * 4, four)) for four in lows])

    def test_forms(self):
        functions = last_functions(tree_kinds())
        paths = functions.paths("last", "Node")
        self.assertEqual((paths.__class__, paths[0].__class__, paths[0][0].__class__), (list, tuple, tuple))

    def test_returned_list_is_new(self):
        functions = last_functions(tree_kinds())
        paths = functions.paths("last", "Node")
        paths.clear()
        self.assertEqual(functions.paths("last", "Node"), [(("right", "last", 0),)])


class ReadTest(unittest.TestCase):
    def setUp(self):
        self.functions = Functions(KINDS, [wood_row("f", (("read", "b"),), (SAY,)), box_row("Wood")])

    def test_attributes(self):
        self.assertIs(self.functions.kinds, KINDS)
        self.assertEqual(self.functions.names, ("f", "Wood"))
        self.assertIs(self.functions.names.__class__, tuple)
        self.assertEqual(self.functions.takes("f"), "Wood")
        self.assertEqual(self.functions.takes("Wood"), "Box")

    def test_bodies(self):
        self.assertEqual(self.functions.body("f", "Node"), (("read", "b"),))
        self.assertEqual(self.functions.body("f", "Leaf"), (SAY,))
        self.assertEqual(self.functions.body("Wood", "Void"), ())

    def test_arguments_are_not_changed_and_not_kept(self):
        bodies = {"Node": (("read", "b"),), "Leaf": ()}
        rows = [("f", "Wood", "sum", bodies)]
        functions = Functions(KINDS, rows)
        self.assertEqual(rows, [("f", "Wood", "sum", {"Node": (("read", "b"),), "Leaf": ()})])
        self.assertEqual(list(bodies), ["Node", "Leaf"])
        bodies["Node"] = (SAY,)
        del bodies["Leaf"]
        rows.clear()
        self.assertEqual((functions.names, functions.body("f", "Leaf")), (("f",), ()))
        self.assertEqual(functions.body("f", "Node"), (("read", "b"),))
        self.assertEqual(functions.paths("f", "Node"), [(("b", "", 0),)])

    def check(self, name, call, *arguments):
        with self.assertRaises(NotThere) as caught:
            call(*arguments)
        self.assertEqual(caught.exception.name, name)

    def test_unknown_functions(self):
        for name in ("", "F", "Box", "Leaf", "f ", "g"):
            self.check(name, self.functions.takes, name)
            self.check(name, self.functions.reached, name)
            for call in (self.functions.body, self.functions.paths):
                self.check(name, call, name, "Node")
                # The unknown function goes before the unknown maker.
                self.check(name, call, name, "none")

    def test_makers_that_are_not_those_of_the_kind(self):
        for maker in ("", "node", "Wood", "f", "Full", "Void"):
            self.check(maker, self.functions.body, "f", maker)
            self.check(maker, self.functions.paths, "f", maker)
        self.check("Leaf", self.functions.body, "Wood", "Leaf")
        self.check("Leaf", self.functions.paths, "Wood", "Leaf")

    def test_methods_stand_in_the_class_itself(self):
        for name in ("takes", "body", "paths", "reached", "__init__"):
            self.assertIn(name, vars(Functions))


class ReachedTest(unittest.TestCase):
    def setUp(self):
        # a calls c in a branch, b and d call each other, c and e call only themselves or nothing.
        branch = ("if", "a", 5, (), (("if", "b", 5, (("call", "c", "right"),), ()),))
        self.functions = Functions(KINDS, [
            wood_row("a", (branch,)), wood_row("b", (("call", "d", "left"),)), wood_row("c", (("call", "c", "left"),)),
            wood_row("d", (("call", "b", "right"), ("call", "d", "left"))), wood_row("e"),
            box_row("f", (("call", "e", "wood"), ("call", "f", "next")))])

    def test_no_starts(self):
        self.assertEqual(self.functions.reached(), [])

    def test_one_start(self):
        self.assertEqual(self.functions.reached("a"), ["a", "c"])
        self.assertEqual(self.functions.reached("c"), ["c"])
        self.assertEqual(self.functions.reached("e"), ["e"])
        self.assertEqual(self.functions.reached("f"), ["e", "f"])

    def test_functions_that_call_each_other(self):
        self.assertEqual(self.functions.reached("b"), ["b", "d"])
        self.assertEqual(self.functions.reached("d"), ["b", "d"])

    def test_several_starts_in_the_order_of_the_table(self):
        self.assertEqual(self.functions.reached("f", "a"), ["a", "c", "e", "f"])
        self.assertEqual(self.functions.reached("e", "c", "b"), ["b", "c", "d", "e"])
        self.assertEqual(self.functions.reached("f", "e", "d", "c", "b", "a"), ["a", "b", "c", "d", "e", "f"])

    def test_same_start_twice(self):
        self.assertEqual(self.functions.reached("c", "c"), ["c"])
        self.assertEqual(self.functions.reached("f", "a", "f"), ["a", "c", "e", "f"])

    def test_chain(self):
        rows = [wood_row("f%d" % at, (("call", "f%d" % (at + 1), "left"),)) for at in range(5)] + [wood_row("f5")]
        functions = Functions(KINDS, rows[::-1])
        for at in range(6):
            self.assertEqual(functions.reached("f%d" % at), ["f%d" % number for number in range(5, at - 1, -1)])

    def test_unknown_start_among_known_ones(self):
        for starts, name in ((("a", "x", "b"), "x"), (("y", "x"), "y"), (("a", "b", ""), ""), (("x", "a", "x"), "x")):
            with self.assertRaises(NotThere) as caught:
                self.functions.reached(*starts)
            self.assertEqual(caught.exception.name, name)

    def test_returned_list_is_new(self):
        reached = self.functions.reached("a")
        reached.append("x")
        self.assertEqual(self.functions.reached("a"), ["a", "c"])

    def test_random_tables(self):
        for number in range(200):
            functions, _ = random_case(seeded(number), count=6)
            calls = {name: {called for maker in functions.kinds.makers(functions.takes(name))
                            for path in functions.paths(name, maker) for part, called, low in path if called}
                     for name in functions.names}
            for start in functions.names:
                found = {start}
                for _ in range(6):
                    found = found.union(*[calls[name] for name in found])
                self.assertEqual(functions.reached(start), [name for name in functions.names if name in found])


class RowsTest(unittest.TestCase):
    def test_rows_of_the_samples(self):
        # The tests above lean on these parts.
        self.assertEqual([row[1] for row in WOOD_ROWS], ["Leaf", "Node", "Full", "Void"])
        self.assertEqual(KINDS.parts("Node"), ("a", "b", "left", "right"))


if __name__ == "__main__":
    unittest.main()
