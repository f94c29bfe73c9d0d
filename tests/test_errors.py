"""The classes of errors.py: their bases and their attributes."""

import unittest

from bytegrove import errors
from bytegrove.errors import (BadFunctions, BadKinds, BadLayout, BadRow, BadTree, Backward, GroveError, NoLayout,
                              NotThere, Stuck, Unknown, WrongLayout)


class BasesTest(unittest.TestCase):
    def test_base_of_all_is_a_value_error(self):
        self.assertEqual(GroveError.__bases__, (ValueError,))

    def test_direct_bases(self):
        for error in (BadKinds, BadFunctions, BadTree, BadLayout, BadRow, NotThere, Stuck, WrongLayout, NoLayout):
            self.assertEqual(error.__bases__, (GroveError,), error)

    def test_kinds_of_stuck(self):
        self.assertEqual(Backward.__bases__, (Stuck,))
        self.assertEqual(Unknown.__bases__, (Stuck,))

    def test_all_are_defined_in_the_file(self):
        names = ("GroveError BadKinds BadFunctions BadTree BadLayout BadRow NotThere Stuck Backward Unknown"
                 " WrongLayout NoLayout").split()
        for name in names:
            self.assertEqual(getattr(errors, name).__module__, "bytegrove.errors")


class AttributesTest(unittest.TestCase):
    def test_row(self):
        self.assertEqual(BadKinds(3).row, 3)
        self.assertEqual(BadFunctions(4).row, 4)

    def test_at_name_and_maker(self):
        self.assertEqual(BadRow(9).at, 9)
        self.assertEqual(NotThere("no such").name, "no such")
        self.assertEqual(BadLayout("Node").maker, "Node")

    def test_stuck(self):
        for error in (Stuck("f", "Node", "left"), Backward("f", "Node", "left"), Unknown("f", "Node", "left", "b")):
            self.assertEqual((error.function, error.maker, error.part), ("f", "Node", "left"))
        self.assertEqual(Unknown("f", "Node", "left", "right").blocker, "right")
        self.assertFalse(hasattr(Backward("f", "Node", "left"), "blocker"))

    def test_wrong_layout_and_no_layout(self):
        wrong = WrongLayout("f", ("Leaf", 0))
        self.assertEqual((wrong.start, wrong.tree), ("f", ("Leaf", 0)))
        none = NoLayout("Node", ("left", "right"))
        self.assertEqual((none.maker, none.cycle), ("Node", ("left", "right")))

    def test_messages_can_be_shown(self):
        for error in (BadKinds(0), BadTree("x"), Unknown("f", "m", "p", "b"), NotThere("x"), NoLayout("m", ("a", "b"))):
            self.assertIsInstance(str(error), str)


if __name__ == "__main__":
    unittest.main()
