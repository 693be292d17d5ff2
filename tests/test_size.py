"""size: leaves, nodes and depth; its refusals."""

import unittest

from buildtext.desk import size
from tests.support import EACH_KIND, check_refusals_of_reading, codes, leaves_nodes_depth, size_of


class SizeTest(unittest.TestCase):
    def sizes(self, rows):
        """Each row: a text, and its leaves, nodes and depth."""
        for text, answer in rows:
            with self.subTest(text):
                self.assertEqual(size_of(text), answer)

    def of_exprs(self, rows):
        """Each row: an EXPR, and its leaves, nodes and depth without those of the STMT and of the FILE."""
        self.sizes([(text + ";", (leaves, nodes + 2, depth + 2)) for text, (leaves, nodes, depth) in rows])


class Files(SizeTest):
    def test_number_by_number(self):
        self.assertEqual(size([]), [0, 1, 1])
        self.assertEqual(size(codes("a;")), [1, 2, 3])
        self.assertEqual(size(codes("-x.y;")), [2, 5, 6])

    def test_no_statement(self):
        self.sizes([("", (0, 1, 1)), (" ", (0, 1, 1)), ("\t\r\n ", (0, 1, 1)), ("# a", (0, 1, 1)), ("# a;\n# b;\n", (0, 1, 1))])

    def test_several_statements(self):
        self.sizes([
            ("a; b;", (2, 3, 3)), ("a; [b];", (2, 4, 4)), ("[b]; a;", (2, 4, 4)), ("a; [[b]]; c;", (3, 6, 5)), ("a; # b;\n", (1, 2, 3)),
        ])

    def test_each_kind_of_statement(self):
        self.sizes([
            ('load "t" a;', (2, 2, 3)), ('load "" a, b, c;', (4, 2, 3)),
            ("def f() {}", (1, 4, 3)), ("def f(a) {}", (2, 5, 5)), ("def f(a, b) {}", (3, 6, 5)), ("def f(a, b = 1) {}", (4, 6, 5)),
            ("def f(a = [1]) {}", (3, 6, 6)), ("def f() { a; }", (2, 5, 5)), ("def f() { a; b; }", (3, 6, 5)),
            ("if a {}", (1, 3, 3)), ("if a {} else {}", (1, 4, 3)), ("if a { b; }", (2, 4, 5)), ("if a {} else { b; }", (2, 5, 5)),
            ("if a { b; } else { c; d; }", (4, 7, 5)), ("if [] {}", (0, 4, 3)), ("if a { if b {} }", (2, 5, 5)),
            ("for a in b {}", (2, 3, 3)), ("for a in [] {}", (1, 4, 3)), ("for a in b { c; }", (3, 4, 5)), ("for a in [b] {}", (2, 4, 4)),
            ("def f() { return; }", (1, 5, 4)), ("def f() { return a; }", (2, 5, 5)), ("def f() { return []; }", (1, 6, 5)),
            ("a = b;", (2, 2, 3)), ("a = [];", (1, 3, 3)), ("a = [b];", (2, 3, 4)), ("def f() { a = b; }", (3, 5, 5)),
            ("a;", (1, 2, 3)), ("[];", (0, 3, 3)),
        ])


class Exprs(SizeTest):
    def test_each_kind_of_leaf(self):
        self.of_exprs([(text, (1, 0, 1)) for text in ["0", "1" + "0" * 18, '""', '"abc"', "a", "n" * 32, "true", "false", "none"]])

    def test_names_of_kind_7_are_leaves(self):
        self.of_exprs([("a.b", (2, 2, 3)), ("f(n = a)", (3, 3, 4)), ("{n: a}", (2, 2, 3)), ("1.a", (2, 2, 3))])

    def test_each_kind_of_node(self):
        self.of_exprs([
            ("a or b", (2, 1, 2)), ("a or b or c", (3, 1, 2)), ("a and b", (2, 1, 2)), ("a and b and c", (3, 1, 2)), ("not a", (1, 1, 2)),
            ("a == b", (2, 1, 2)), ("a != b", (2, 1, 2)), ("a < b", (2, 1, 2)), ("a <= b", (2, 1, 2)), ("a in b", (2, 1, 2)),
            ("a + b", (2, 2, 3)), ("a - b", (2, 2, 3)), ("a + b - c", (3, 3, 3)), ("a * b", (2, 2, 3)), ("a / b % c", (3, 3, 3)), ("a + b * c", (3, 4, 5)),
            ("a * b + c", (3, 4, 4)), ("-a", (1, 1, 2)), ("a()", (1, 2, 2)), ("a(b)", (2, 2, 3)), ("a(b, c)", (3, 2, 3)), ("a(b, n = c)", (4, 3, 4)),
            ("a[b]", (2, 2, 3)), ("a()()", (1, 3, 2)), ("a[b].c(d)", (4, 4, 3)), ("[]", (0, 1, 1)), ("[a]", (1, 1, 2)), ("[a, b]", (2, 1, 2)),
            ("[a for x in b]", (3, 1, 2)), ("[a for x in b if c]", (4, 1, 2)), ("[a for x in [[]]]", (2, 3, 3)), ("{}", (0, 1, 1)),
            ("{n: a, m: b}", (4, 3, 3)), ("{n: {}}", (1, 3, 3)),
        ])

    def test_nodes_without_parts(self):
        self.of_exprs([("[]", (0, 1, 1)), ("{}", (0, 1, 1)), ("[[]]", (0, 2, 2)), ("[[], {}]", (0, 3, 2)), ("[]()", (0, 3, 2)), ("-[]", (0, 2, 2))])
        self.sizes([("def f() {}", (1, 4, 3)), ("if [] {} else {}", (0, 5, 3)), ("def f() { return; return; }", (1, 6, 4))])

    def test_parentheses_make_no_node(self):
        self.of_exprs([
            ("(a)", (1, 0, 1)), ("((a))", (1, 0, 1)), ("(" * 12 + "a" + ")" * 12, (1, 0, 1)), ("(a + b)", (2, 2, 3)), ("(a) + (b)", (2, 2, 3)),
            ("a + (b * c)", (3, 4, 5)), ("(a)(b)", (2, 2, 3)), ("(-(a))", (1, 1, 2)),
        ])

    def test_parentheses_that_part_what_would_be_one_node(self):
        self.of_exprs([
            ("a + b + c", (3, 3, 3)), ("(a + b) + c", (3, 4, 4)), ("a + (b + c)", (3, 4, 5)), ("a or (b or c)", (3, 2, 3)), ("a.b.c", (3, 3, 3)),
            ("(a.b).c", (3, 4, 4)), ("-(-a)", (1, 2, 3)), ("not (not a)", (1, 2, 3)),
        ])

    def test_the_depth_is_that_of_the_deepest_part(self):
        self.of_exprs([
            ("[[[a]], b]", (2, 3, 4)), ("[b, [[a]]]", (2, 3, 4)), ("[b, [[a]], c]", (3, 3, 4)), ("[[], [[[]]], []]", (0, 6, 4)),
            ("f([[a]], b)", (3, 4, 5)), ("a == [[b]]", (2, 3, 4)), ("[[b]] == a", (2, 3, 4)),
        ])


class Deep(SizeTest):
    def test_as_deep_as_brackets_allow(self):
        self.of_exprs([
            ("[" * 12 + "]" * 12, (0, 12, 12)), ("[" * 12 + "a" + "]" * 12, (1, 12, 13)), ("{n: " * 12 + "a" + "}" * 12, (13, 24, 25)),
            ("f(" * 12 + "a" + ")" * 12, (13, 24, 25)), ("f(n = " * 12 + "a" + ")" * 12, (25, 36, 37)), ("a[" * 12 + "b" + "]" * 12, (13, 24, 25)),
        ])
        self.sizes([
            ("if a {" * 12 + "b;" + "}" * 12, (13, 26, 27)), ("for a in b {" * 12 + "}" * 12, (24, 25, 25)),
            ("def f() {" + "if a {" * 11 + "return b;" + "}" * 11 + "}", (13, 27, 27)),
        ])

    def test_all_rules_at_each_bracket(self):
        # At each level nodes 30, 31, 32, 33, 38, 60, 40, 62, 43, 44, 65 and 45, one within the other.
        level = "a or b and not c == d + e * -f(n = "
        self.of_exprs([(level * 12 + "x" + ")" * 12, (12 * 7 + 1, 12 * 12, 12 * 12 + 1))])

    def test_long_but_not_deep(self):
        self.sizes([
            ("a;" * 2048, (2048, 2049, 3)), ("[];" * 1365, (0, 1 + 2 * 1365, 3)), (" " * 4096, (0, 1, 1)), ("#" * 4096, (0, 1, 1)),
            ('load "" ' + ",".join("n%03d" % number for number in range(800)) + ";", (801, 2, 3)), ("if a{}" * 682, (682, 1 + 2 * 682, 3)),
        ])
        self.of_exprs([
            ("a" + "+b" * 2047, (2048, 2048, 3)), ("a" + "*b" * 2047, (2048, 2048, 3)), ("[a" + ",b" * 2046 + "]", (2047, 1, 2)),
            ("a" + "()" * 2047, (1, 2048, 2)), ("a" + ".b" * 2047, (2048, 2048, 3)), ("a" + " or b" * 818, (819, 1, 2)), ('"' + "z" * 1024 + '"', (1, 0, 1)),
        ])


class Refused(unittest.TestCase):
    def test_as_reading_refuses(self):
        check_refusals_of_reading(self, size)

    def test_wrong_texts(self):
        for number, text in [(2, "?"), (2, "01;"), (2, '"'), (3, "a"), (3, "()"), (3, "a;;"), (4, "[" * 13 + "]" * 13 + ";"), (5, "if a { b = 1; }"), (6, "{a: 1, a: 2};")]:
            with self.subTest(text):
                self.assertEqual(size(codes(text)), [-number])


class Counted(unittest.TestCase):
    def test_as_the_tree_is_told(self):
        for text in ["", "a;", EACH_KIND, EACH_KIND.replace("\n", " # x\n"), "-x.y;"]:
            with self.subTest(text):
                self.assertEqual(size_of(text), leaves_nodes_depth(text))
        # Of its STMTs: 3 leaves, 10, 23, 9 and 4.
        self.assertEqual(size_of(EACH_KIND)[0], 3 + 10 + 23 + 9 + 4)


if __name__ == "__main__":
    unittest.main()
