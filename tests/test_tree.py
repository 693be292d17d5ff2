"""The tree that reading gives: kinds, places, bytes, parts; its leaves, nodes and depth."""

import unittest

from buildtext.reading import read_text
from tests.support import codes, leaves_nodes_depth, shape, tree_numbers


def name(place, text, kind=3):
    return [kind, place, len(text)] + codes(text)


def stmts(text):
    tree = read_text(codes(text))
    numbers = tree_numbers(tree)
    assert numbers[:2] == [10, 0]
    return numbers[2:]


def expr(text):
    """The numbers of the EXPR that is the text's one STMT."""
    numbers = stmts(text + ";")
    assert numbers[:2] == [1, 20] and numbers[3] == 1
    assert numbers[2] == numbers[5]
    return numbers[4:]


class Leaves(unittest.TestCase):
    def test_each_kind(self):
        self.assertEqual(expr(" 120"), [1, 1, 3, 49, 50, 48])
        self.assertEqual(expr('  "a\\n\\x00\\""'), [2, 2, 4, 97, 10, 0, 34])
        self.assertEqual(expr('""'), [2, 0, 0])
        self.assertEqual(expr("ab"), [3, 0, 2, 97, 98])
        self.assertEqual(expr("true"), [4, 0, 0])
        self.assertEqual(expr(" false"), [5, 1, 0])
        self.assertEqual(expr("none"), [6, 0, 0])


class Statements(unittest.TestCase):
    def test_the_empty_file(self):
        self.assertEqual(stmts(""), [0])
        self.assertEqual(stmts("  # a\n "), [0])

    def test_load(self):
        self.assertEqual(stmts(' load "t" a, b;'), [1, 11, 1, 3, 2, 6, 1, 116] + name(10, "a") + name(13, "b"))

    def test_def(self):
        self.assertEqual(
            stmts(" def f ( a, b = c) { d; }"),
            [1, 12, 1, 3] + name(5, "f")
            + [13, 7, 2, 14, 9, 1] + name(9, "a") + [14, 12, 2] + name(12, "b") + name(16, "c")
            + [15, 19, 1, 20, 21, 1] + name(21, "d"),
        )
        self.assertEqual(stmts("def f() {}"), [1, 12, 0, 3] + name(4, "f") + [13, 5, 0, 15, 8, 0])

    def test_if(self):
        self.assertEqual(stmts(" if (a) {}"), [1, 16, 1, 2] + name(5, "a") + [15, 8, 0])
        self.assertEqual(
            stmts("if a {} else { b; }"), [1, 16, 0, 3] + name(3, "a") + [15, 5, 0, 15, 13, 1, 20, 15, 1] + name(15, "b"))

    def test_for(self):
        self.assertEqual(stmts(" for x in y {}"), [1, 17, 1, 3] + name(5, "x") + name(10, "y") + [15, 12, 0])

    def test_return(self):
        beginning = [1, 12, 0, 3] + name(4, "f") + [13, 5, 0, 15, 8, 1]
        self.assertEqual(stmts("def f() { return; }"), beginning + [18, 10, 0])
        self.assertEqual(stmts("def f() { return (a); }"), beginning + [18, 10, 1] + name(18, "a"))

    def test_giving_and_bare(self):
        self.assertEqual(stmts(" x = y; (z);"), [2, 19, 1, 2] + name(1, "x") + name(5, "y") + [20, 9, 1] + name(9, "z"))


class Expressions(unittest.TestCase):
    def test_or_and_not(self):
        self.assertEqual(expr("a or b or c"), [30, 0, 3] + name(0, "a") + name(5, "b") + name(10, "c"))
        self.assertEqual(expr("a and b and c"), [31, 0, 3] + name(0, "a") + name(6, "b") + name(12, "c"))
        self.assertEqual(expr(" not (a)"), [32, 1, 1] + name(6, "a"))
        self.assertEqual(
            expr("a or b and c"), [30, 0, 2] + name(0, "a") + [31, 5, 2] + name(5, "b") + name(11, "c"))
        self.assertEqual(
            expr("(a or b) or c"), [30, 1, 2, 30, 1, 2] + name(1, "a") + name(6, "b") + name(12, "c"))

    def test_comparisons(self):
        for sign, kind in [("==", 33), ("!=", 34), ("<", 35), ("<=", 36), ("in", 37)]:
            with self.subTest(sign):
                self.assertEqual(
                    expr("(a) " + sign + " b"), [kind, 1, 2] + name(1, "a") + name(5 + len(sign), "b"))

    def test_signs(self):
        self.assertEqual(
            expr("a + b - c"), [38, 0, 3] + name(0, "a") + [60, 2, 1] + name(4, "b") + [61, 6, 1] + name(8, "c"))
        self.assertEqual(
            expr("a * b / c % d"),
            [40, 0, 4] + name(0, "a") + [62, 2, 1] + name(4, "b") + [63, 6, 1] + name(8, "c") + [64, 10, 1] + name(12, "d"))
        self.assertEqual(
            expr("(a - b) * -c"),
            [40, 1, 2, 38, 1, 2] + name(1, "a") + [61, 3, 1] + name(5, "b") + [62, 8, 1, 43, 10, 1] + name(11, "c"))
        self.assertEqual(expr(" - 1"), [43, 1, 1, 1, 3, 1, 49])

    def test_what_stands_behind_an_atom(self):
        self.assertEqual(
            expr("f (a, n = b) [c] . d"),
            [44, 0, 4] + name(0, "f") + [65, 2, 2] + name(3, "a") + [45, 6, 2] + name(6, "n", 7) + name(10, "b")
            + [66, 13, 1] + name(14, "c") + [67, 17, 1] + name(19, "d", 7))
        self.assertEqual(expr("f()"), [44, 0, 2] + name(0, "f") + [65, 1, 0])
        self.assertEqual(expr("(f)()"), [44, 1, 2] + name(1, "f") + [65, 3, 0])
        self.assertEqual(
            expr("(a.b).c"), [44, 1, 2, 44, 1, 2] + name(1, "a") + [67, 2, 1] + name(3, "b", 7) + [67, 5, 1] + name(6, "c", 7))

    def test_lists(self):
        self.assertEqual(expr("[]"), [48, 0, 0])
        self.assertEqual(expr(" [a, b]"), [48, 1, 2] + name(2, "a") + name(5, "b"))
        self.assertEqual(expr(" [a for x in b]"), [49, 1, 3] + name(2, "a") + name(8, "x") + name(13, "b"))
        self.assertEqual(
            expr("[a for x in b if c]"), [49, 0, 4] + name(1, "a") + name(7, "x") + name(12, "b") + name(17, "c"))

    def test_records(self):
        self.assertEqual(expr("{}"), [50, 0, 0])
        self.assertEqual(
            expr(" {n: a, m: b}"),
            [50, 1, 2, 51, 2, 2] + name(2, "n", 7) + name(5, "a") + [51, 8, 2] + name(8, "m", 7) + name(11, "b"))


class Measures(unittest.TestCase):
    def test_leaves_nodes_and_depth(self):
        for text, measures in [
            ("", (0, 1, 1)),
            ("a;", (1, 2, 3)),
            ("((a));", (1, 2, 3)),
            ("-x.y;", (2, 5, 6)),
            ("[];", (0, 3, 3)),
            ("def f() {}", (1, 4, 3)),
            ("a + b + c;", (3, 5, 5)),
            ("(a + b) + c;", (3, 6, 6)),
            ("f(n = a);", (3, 5, 6)),
            ("if a {} else { b; }", (2, 5, 5)),
            ("{n: a};", (2, 4, 5)),
        ]:
            with self.subTest(text):
                self.assertEqual(leaves_nodes_depth(read_text(codes(text))), measures)

    def test_parentheses_make_no_node(self):
        self.assertEqual(shape(read_text(codes("(((a)) + (b));"))), shape(read_text(codes("a + b;"))))
        self.assertNotEqual(shape(read_text(codes("(a + b) + c;"))), shape(read_text(codes("a + b + c;"))))


if __name__ == "__main__":
    unittest.main()
