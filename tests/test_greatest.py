"""Each call of bodies, runs, judge and cheapest with the greatest tables that the document lets."""

import unittest

from bytegrove.bodies import Functions
from bytegrove.cheapest import cheapest, extra_price, offers
from bytegrove.errors import BadFunctions, NoLayout, Stuck, WrongLayout
from bytegrove.judge import RowFunction, judge, least_stuck, least_unended, needless, what_if, words_of
from bytegrove.kinds import Kinds
from bytegrove.layouts import Layout
from bytegrove.rows import pack
from bytegrove.runs import events, run_row, run_tree
from tests.reference import Walk, closed_words, good_specs, plain_row, spec_cost
from tests.samples import greatest_functions, greatest_kinds, greatest_rows, random_layout, random_tree, seeded

NAMES = ("fa", "fb", "fc", "fd", "ga", "gb")


class GreatestTest(unittest.TestCase):
    @classmethod
    def setUpClass(cls):
        cls.kinds = greatest_kinds()
        cls.functions = greatest_functions(cls.kinds)
        cls.layout = cheapest(cls.functions, *NAMES)
        cls.every = cls.layout
        for mark in Layout.measured(cls.kinds) ^ Layout.plain(cls.kinds):
            cls.every = cls.every + mark

    def layouts(self):
        """Return layouts under which functions are stuck, run and end."""
        chance = seeded(3)
        marks = self.layout ^ Layout.plain(self.kinds)
        return ([self.layout, Layout.plain(self.kinds), Layout.measured(self.kinds), self.every, self.every - "A2.s"]
                + [self.layout - mark for mark in marks] + [random_layout(chance, self.kinds) for _ in range(3)])

    def test_the_tables_are_the_greatest(self):
        self.assertEqual((len(self.kinds.order), len(self.kinds.names), self.functions.names), (12, 4, NAMES))
        for maker in self.kinds.order:
            self.assertEqual(len(self.kinds.parts(maker)), 4)
        for name in NAMES:
            for maker in self.kinds.makers(self.functions.takes(name)):
                self.assertEqual(len(self.functions.body(name, maker)), 12)
                self.assertGreater(len(self.functions.paths(name, maker)), 1)
        rows = greatest_rows()
        with self.assertRaises(BadFunctions) as caught:
            Functions(self.kinds, rows + [("more",) + rows[0][1:]])
        self.assertEqual(caught.exception.row, 6)

    def test_reached(self):
        for name in NAMES:
            self.assertEqual(self.functions.reached(name), list(NAMES))

    def test_words_and_least_trees(self):
        seen = {}
        for layout in self.layouts():
            words = words_of(self.functions, layout)
            self.assertEqual(words, closed_words(self.functions, layout))
            for name, word in words.items():
                seen[word] = seen.get(word, 0) + 1
                stuck, unended = least_stuck(self.functions, layout, name), least_unended(self.functions, layout, name)
                self.assertEqual((stuck is None, unended is None), (word != "stuck", word == "ends"))
                self.check_least(layout, name, stuck, unended)
        self.assertEqual(sorted(seen), ["ends", "runs", "stuck"])

    def check_least(self, layout, name, stuck, unended):
        """Check how the runs on the least trees go, and the verdict."""
        verdict = judge(self.functions, layout, name)
        self.assertEqual(verdict.right, stuck is None)
        if stuck is not None:
            with self.assertRaises(Stuck) as caught:
                run_row(self.functions, layout, name, pack(layout, stuck))
            self.assertEqual(verdict.lines()[1], "%s %s.%s" % (caught.exception.function, caught.exception.maker,
                                                               caught.exception.part))
            with self.assertRaises(WrongLayout):
                RowFunction(self.functions, layout, name)
            self.assertLessEqual(len(plain_row(self.kinds, unended)), len(plain_row(self.kinds, stuck)))
        if unended is not None and unended != stuck:
            self.assertIsNone(run_row(self.functions, layout, name, pack(layout, unended))[2])

    def test_runs(self):
        chance = seeded(1)
        for name in NAMES:
            function = RowFunction(self.functions, self.layout, name)
            for levels in (0, 1, 2, 3, 4, 5, 5):
                tree = random_tree(chance, self.kinds, self.functions.takes(name), levels)
                row = pack(self.layout, tree)
                walk = Walk(self.functions, self.layout, row)
                answer, end = walk.start(name)
                self.assertEqual(run_tree(self.functions, name, tree), (answer, walk.prints))
                self.assertEqual(run_row(self.functions, self.layout, name, row), (answer, walk.prints, len(row)))
                self.assertEqual(function(row), (answer, walk.prints))
                self.assertEqual(list(events(self.functions, self.layout, name, row)), walk.events)
            self.assertEqual(function.count, 7)

    def test_trees_of_40_levels(self):
        tree = self.kinds.least("A")
        for at in range(39):
            tree = ("A1", 3 * at + 60, self.kinds.least("B"), tree, self.kinds.least("C"))
        self.check_tree("fa", tree)
        self.check_tree("ga", tree)

    def test_almost_4000_nodes(self):
        small = tree = ("D0", 1, 2, 3, 4)
        for _ in range(8):
            small, tree = tree, self.over(tree, tree)
        tree = self.over(tree, small)
        self.assertEqual(self.count(tree), 3831)
        self.check_tree("fd", tree)

    def over(self, one, other):
        """Return a tree of kind D with two others of this kind inside."""
        inner = ("B1", 3, ("C2", 1, self.kinds.least("C"), 200, other), self.kinds.least("B"), self.kinds.least("D"))
        return ("D1", 200, ("A2", 1, self.kinds.least("A"), 9, self.kinds.least("B")), one, inner)

    def check_tree(self, name, tree):
        """Check that the runs on a tree and on its row tell the same."""
        row = pack(self.layout, tree)
        answer, prints = run_tree(self.functions, name, tree)
        self.assertEqual(run_row(self.functions, self.layout, name, row), (answer, prints, len(row)))

    def count(self, tree):
        return 1 + sum(self.count(value) for value in tree[1:] if isinstance(value, tuple))

    def test_cheapest_and_offers(self):
        found = offers(self.functions, *NAMES)
        self.assertEqual(len(found), 64)
        self.assertEqual((self.layout.price, tuple(spec for maker, spec in self.layout)),
                         min((total, specs) for ends, specs, total in found))
        self.assertGreater(self.layout.price, 0)
        for number in (0, 1, 22, 42, 63):
            ends, specs, total = found[number]
            self.assertEqual(ends, tuple(name for at, name in enumerate(NAMES) if number >> at & 1))
            self.assertEqual(specs, tuple(good_specs(self.functions, NAMES, ends, maker)[0]
                                          for maker in self.kinds.order))
            self.assertEqual(total, sum(spec_cost(self.kinds, *pair) for pair in zip(self.kinds.order, specs)))
        self.assertEqual(extra_price(self.functions, "fa"), self.layout.price)
        self.assertEqual(extra_price(self.functions, "fa", *NAMES[1:]), 0)

    def test_no_layout(self):
        rows = greatest_rows()
        bodies = dict(rows[5][3])
        bodies["B2"] = (("say", 1),) * 10 + (("read", "r"), ("read", "p"))
        functions = Functions(self.kinds, rows[:5] + [rows[5][:3] + (bodies,)])
        for call in (cheapest, offers, extra_price):
            with self.assertRaises(NoLayout) as caught:
                call(functions, *NAMES)
            self.assertEqual((caught.exception.maker, caught.exception.cycle), ("B2", ("p", "r")))

    def test_needless_and_what_if(self):
        self.assertEqual(needless(self.functions, self.layout, *NAMES), [])
        marks = needless(self.functions, self.every, *NAMES)
        self.assertEqual(marks, [mark for mark in self.every ^ Layout.plain(self.kinds)
                                 if "stuck" not in words_of(self.functions, self.every - mark).values()])
        self.assertGreater(len(marks), 3)
        before = list(self.every)
        for name in NAMES:
            self.assertEqual(what_if(self.functions, self.every, list(self.layout), name).lines(),
                             judge(self.functions, self.layout, name).lines())
            self.assertEqual(list(self.every), before)

    def test_six_functions_on_one_kind_of_nine_makers(self):
        chance = seeded(5)
        parts = [(part, "A", 100 * at + 1) for at, part in enumerate("wxyz")]
        rows = [("A", "A0", tuple((part, "byte") for part in "wxyz"))]
        rows += [("A", "A%d" % at, tuple(chance.sample(parts, 4))) for at in range(1, 9)]
        rows += [(kind, kind + "0", tuple((part, "byte") for part in "wxyz")) for kind in "BCD"]
        kinds = Kinds(rows)
        orders = {maker: chance.sample("wxyz", 4) for maker in kinds.makers("A")}
        table = []
        for at in range(6):
            bodies = {"A0": (("say", 5),) * 12}
            for maker in kinds.makers("A")[1:]:
                asked = [part for part in orders[maker] if chance.random() < 0.6]
                calls = tuple(("call", "f%d" % chance.randint(0, 5), part) for part in asked)
                bodies[maker] = calls + (("say", 1),) * 8
            table.append(("f%d" % at, "A", "sum", bodies))
        functions = Functions(kinds, table)
        layout = cheapest(functions, *functions.names)
        for name in functions.names:
            self.assertTrue(judge(functions, layout, name).right)
        self.assertEqual(needless(functions, layout, *functions.names), [])
        found = offers(functions, *functions.names)
        self.assertEqual(len(found), 2 ** len(functions.reached(*functions.names)))
        self.assertEqual(min(total for ends, specs, total in found), layout.price)


if __name__ == "__main__":
    unittest.main()
