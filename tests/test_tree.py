"""tree: kinds, places, bytes and parts, number by number; its refusals."""

import unittest

from buildtext.desk import tree
from tests.support import EACH_KIND, REFUSED, codes, grown, kinds_in, numbers_of, shape


def name(place, text, kind=3):
    return [kind, place, len(text)] + codes(text)


def stmts(text):
    """The numbers of the FILE behind its kind and its place: how many STMTs, and they."""
    numbers = numbers_of(text)
    assert numbers[:2] == [10, 0]
    return numbers[2:]


def expr(text):
    """The numbers of the EXPR that is the text's one STMT."""
    numbers = stmts(text + ";")
    assert numbers[:2] == [1, 20] and numbers[3] == 1
    assert numbers[2] == numbers[5]
    return numbers[4:]


class Leaves(unittest.TestCase):
    def test_each_kind(self):
        self.assertEqual(expr(" 120"), [1, 1, 3, 49, 50, 48])
        self.assertEqual(expr('  "a\\n\\x00\\""'), [2, 2, 4, 97, 10, 0, 34])
        self.assertEqual(expr('""'), [2, 0, 0])
        self.assertEqual(expr("ab"), [3, 0, 2, 97, 98])
        self.assertEqual(expr("true"), [4, 0, 0])
        self.assertEqual(expr(" false"), [5, 1, 0])
        self.assertEqual(expr("none"), [6, 0, 0])

    def test_the_bytes_of_names_and_numbers(self):
        self.assertEqual(expr("0"), [1, 0, 1, 48])
        self.assertEqual(expr("1" + "0" * 18), [1, 0, 19, 49] + [48] * 18)
        self.assertEqual(expr("9876543210"), [1, 0, 10] + codes("9876543210"))
        self.assertEqual(expr("_aZ09"), [3, 0, 5, 95, 97, 90, 48, 57])
        self.assertEqual(expr("n" * 32), [3, 0, 32] + [110] * 32)
        self.assertEqual(expr("trues"), [3, 0, 5] + codes("trues"))

    def test_each_byte_told_in_a_quoted_text(self):
        for byte in range(256):
            with self.subTest(byte):
                self.assertEqual(expr('"\\x%02x"' % byte), [2, 0, 1, byte])
                if 32 <= byte <= 126 and byte not in (34, 92):
                    self.assertEqual(expr('"' + chr(byte) + '"'), [2, 0, 1, byte])

    def test_the_bytes_of_a_quoted_text_are_those_told(self):
        self.assertEqual(expr('"\\"\\\\\\n\\t"'), [2, 0, 4, 34, 92, 10, 9])
        self.assertEqual(expr('"\\x22\\x5c\\x0a\\x09"'), [2, 0, 4, 34, 92, 10, 9])
        self.assertEqual(expr('"\\\\n\\\\x41"'), [2, 0, 6] + codes("\\n\\x41"))
        self.assertEqual(expr('"a # b"'), [2, 0, 5] + codes("a # b"))
        self.assertEqual(expr('"\\n" + b')[:10], [38, 0, 2, 2, 0, 1, 10, 60, 5, 1])
        self.assertEqual(expr('"' + "z" * 1024 + '"'), [2, 0, 1024] + [122] * 1024)
        self.assertEqual(expr('"' + '\\"' * 1024 + '"'), [2, 0, 1024] + [34] * 1024)


class Statements(unittest.TestCase):
    def test_the_empty_file(self):
        self.assertEqual(stmts(""), [0])
        self.assertEqual(stmts("  # a\n "), [0])
        self.assertEqual(tree([]), [0, 10, 0, 0])
        self.assertEqual(tree(codes("#")), [0, 10, 0, 0])
        self.assertEqual(tree(codes("\t\r\n #x\n#y")), [0, 10, 0, 0])

    def test_several(self):
        self.assertEqual(
            stmts("# a\n a;\n\tb;c;"),
            [3, 20, 5, 1] + name(5, "a") + [20, 9, 1] + name(9, "b") + [20, 11, 1] + name(11, "c"))

    def test_load(self):
        self.assertEqual(stmts(' load "t" a, b;'), [1, 11, 1, 3, 2, 6, 1, 116] + name(10, "a") + name(13, "b"))
        self.assertEqual(stmts('load"" a;'), [1, 11, 0, 2, 2, 4, 0] + name(7, "a"))
        self.assertEqual(stmts('load "\\n" a;'), [1, 11, 0, 2, 2, 5, 1, 10] + name(10, "a"))

    def test_def(self):
        self.assertEqual(
            stmts(" def f ( a, b = c) { d; }"),
            [1, 12, 1, 3] + name(5, "f")
            + [13, 7, 2, 14, 9, 1] + name(9, "a") + [14, 12, 2] + name(12, "b") + name(16, "c")
            + [15, 19, 1, 20, 21, 1] + name(21, "d"),
        )
        self.assertEqual(stmts("def f() {}"), [1, 12, 0, 3] + name(4, "f") + [13, 5, 0, 15, 8, 0])
        self.assertEqual(
            stmts("def f(a=(b)) {c;d;}"),
            [1, 12, 0, 3] + name(4, "f") + [13, 5, 1, 14, 6, 2] + name(6, "a") + name(9, "b")
            + [15, 13, 2, 20, 14, 1] + name(14, "c") + [20, 16, 1] + name(16, "d"))

    def test_if(self):
        self.assertEqual(stmts(" if (a) {}"), [1, 16, 1, 2] + name(5, "a") + [15, 8, 0])
        self.assertEqual(
            stmts("if a {} else { b; }"), [1, 16, 0, 3] + name(3, "a") + [15, 5, 0, 15, 13, 1, 20, 15, 1] + name(15, "b"))
        self.assertEqual(stmts("if a {} else {}"), [1, 16, 0, 3] + name(3, "a") + [15, 5, 0, 15, 13, 0])
        self.assertEqual(stmts("if {} {}"), [1, 16, 0, 2, 50, 3, 0, 15, 6, 0])
        self.assertEqual(
            stmts("if a { if b {} } c;"),
            [2, 16, 0, 2] + name(3, "a") + [15, 5, 1, 16, 7, 2] + name(10, "b") + [15, 12, 0] + [20, 17, 1] + name(17, "c"))

    def test_for(self):
        self.assertEqual(stmts(" for x in y {}"), [1, 17, 1, 3] + name(5, "x") + name(10, "y") + [15, 12, 0])
        self.assertEqual(
            stmts("for x in a in b { x; }"),
            [1, 17, 0, 3] + name(4, "x") + [37, 9, 2] + name(9, "a") + name(14, "b") + [15, 16, 1, 20, 18, 1] + name(18, "x"))

    def test_return(self):
        beginning = [1, 12, 0, 3] + name(4, "f") + [13, 5, 0, 15, 8, 1]
        self.assertEqual(stmts("def f() { return; }"), beginning + [18, 10, 0])
        self.assertEqual(stmts("def f() { return (a); }"), beginning + [18, 10, 1] + name(18, "a"))
        self.assertEqual(stmts("def f() { return none; }"), beginning + [18, 10, 1, 6, 17, 0])

    def test_giving_in_a_def(self):
        self.assertEqual(
            stmts("def f() { a = b; }"),
            [1, 12, 0, 3] + name(4, "f") + [13, 5, 0, 15, 8, 1, 19, 10, 2] + name(10, "a") + name(14, "b"))

    def test_giving_and_bare(self):
        self.assertEqual(stmts(" x = y; (z);"), [2, 19, 1, 2] + name(1, "x") + name(5, "y") + [20, 9, 1] + name(9, "z"))


class Expressions(unittest.TestCase):
    def test_or_and_not(self):
        self.assertEqual(expr("a or b or c"), [30, 0, 3] + name(0, "a") + name(5, "b") + name(10, "c"))
        self.assertEqual(expr("a and b and c"), [31, 0, 3] + name(0, "a") + name(6, "b") + name(12, "c"))
        self.assertEqual(expr(" not (a)"), [32, 1, 1] + name(6, "a"))
        self.assertEqual(
            expr("a or b and c"), [30, 0, 2] + name(0, "a") + [31, 5, 2] + name(5, "b") + name(11, "c"))
        self.assertEqual(
            expr("(a or b) or c"), [30, 1, 2, 30, 1, 2] + name(1, "a") + name(6, "b") + name(12, "c"))

    def test_comparisons(self):
        for sign, kind in [("==", 33), ("!=", 34), ("<", 35), ("<=", 36), ("in", 37)]:
            with self.subTest(sign):
                self.assertEqual(
                    expr("(a) " + sign + " b"), [kind, 1, 2] + name(1, "a") + name(5 + len(sign), "b"))

    def test_signs(self):
        self.assertEqual(
            expr("a + b - c"), [38, 0, 3] + name(0, "a") + [60, 2, 1] + name(4, "b") + [61, 6, 1] + name(8, "c"))
        self.assertEqual(
            expr("a * b / c % d"),
            [40, 0, 4] + name(0, "a") + [62, 2, 1] + name(4, "b") + [63, 6, 1] + name(8, "c") + [64, 10, 1] + name(12, "d"))
        self.assertEqual(
            expr("(a - b) * -c"),
            [40, 1, 2, 38, 1, 2] + name(1, "a") + [61, 3, 1] + name(5, "b") + [62, 8, 1, 43, 10, 1] + name(11, "c"))
        self.assertEqual(expr(" - 1"), [43, 1, 1, 1, 3, 1, 49])
        self.assertEqual(expr("-(-a)"), [43, 0, 1, 43, 2, 1] + name(3, "a"))
        self.assertEqual(
            expr("-a - -b"), [38, 0, 2, 43, 0, 1] + name(1, "a") + [61, 3, 1, 43, 5, 1] + name(6, "b"))
        self.assertEqual(
            expr("a + b * c"),
            [38, 0, 2] + name(0, "a") + [60, 2, 1, 40, 4, 2] + name(4, "b") + [62, 6, 1] + name(8, "c"))
        self.assertEqual(
            expr("a - (b - c)"),
            [38, 0, 2] + name(0, "a") + [61, 2, 1, 38, 5, 2] + name(5, "b") + [61, 7, 1] + name(9, "c"))

    def test_what_stands_behind_an_atom(self):
        self.assertEqual(
            expr("f (a, n = b) [c] . d"),
            [44, 0, 4] + name(0, "f") + [65, 2, 2] + name(3, "a") + [45, 6, 2] + name(6, "n", 7) + name(10, "b")
            + [66, 13, 1] + name(14, "c") + [67, 17, 1] + name(19, "d", 7))
        self.assertEqual(expr("f()"), [44, 0, 2] + name(0, "f") + [65, 1, 0])
        self.assertEqual(expr("(f)()"), [44, 1, 2] + name(1, "f") + [65, 3, 0])
        self.assertEqual(expr("f()( )"), [44, 0, 3] + name(0, "f") + [65, 1, 0, 65, 3, 0])
        self.assertEqual(expr("f((a))"), [44, 0, 2] + name(0, "f") + [65, 1, 1] + name(3, "a"))
        self.assertEqual(
            expr("f(n=(b))"), [44, 0, 2] + name(0, "f") + [65, 1, 1, 45, 2, 2] + name(2, "n", 7) + name(5, "b"))
        self.assertEqual(expr("f(n == b)")[:12], [44, 0, 2] + name(0, "f") + [65, 1, 1, 33, 2])
        self.assertEqual(expr("[][a]"), [44, 0, 2, 48, 0, 0, 66, 2, 1] + name(3, "a"))
        self.assertEqual(expr("{}.n"), [44, 0, 2, 50, 0, 0, 67, 2, 1] + name(3, "n", 7))
        self.assertEqual(expr("(-a).n"), [44, 1, 2, 43, 1, 1] + name(2, "a") + [67, 4, 1] + name(5, "n", 7))
        self.assertEqual(
            expr("(a.b).c"), [44, 1, 2, 44, 1, 2] + name(1, "a") + [67, 2, 1] + name(3, "b", 7) + [67, 5, 1] + name(6, "c", 7))

    def test_lists(self):
        self.assertEqual(expr("[]"), [48, 0, 0])
        self.assertEqual(expr(" [a, b]"), [48, 1, 2] + name(2, "a") + name(5, "b"))
        self.assertEqual(expr(" [a for x in b]"), [49, 1, 3] + name(2, "a") + name(8, "x") + name(13, "b"))
        self.assertEqual(
            expr("[a for x in b if c]"), [49, 0, 4] + name(1, "a") + name(7, "x") + name(12, "b") + name(17, "c"))
        self.assertEqual(expr("[ [] ]"), [48, 0, 1, 48, 2, 0])
        self.assertEqual(
            expr("[(a) for x in (b) if (c)]"), [49, 0, 4] + name(2, "a") + name(9, "x") + name(15, "b") + name(22, "c"))

    def test_records(self):
        self.assertEqual(expr("{}"), [50, 0, 0])
        self.assertEqual(
            expr(" {n: a, m: b}"),
            [50, 1, 2, 51, 2, 2] + name(2, "n", 7) + name(5, "a") + [51, 8, 2] + name(8, "m", 7) + name(11, "b"))


class Parentheses(unittest.TestCase):
    def test_no_node_of_their_own(self):
        self.assertEqual(shape("(((a)) + (b));"), shape("a + b;"))
        self.assertNotEqual(shape("(a + b) + c;"), shape("a + b + c;"))

    def test_each_kind_within_them(self):
        for text in [
            "1", '"t"', "a", "true", "false", "none", "a or b", "a and b", "not a", "a == b", "a != b", "a < b", "a <= b",
            "a in b", "a + b", "a - b", "a * b", "a / b", "a % b", "-a", "f()", "a[b]", "a.b", "[]", "[a]", "{}", "{n: a}",
            "[a for x in b]", "[a for x in b if c]",
        ]:
            with self.subTest(text):
                # One blank in the place of each bracket: all that is within them stands at the same places.
                self.assertEqual(numbers_of("((" + text + "));"), numbers_of("  " + text + "  ;"))

    def test_a_node_begins_where_its_first_part_does(self):
        for text, kind in [
            ("((a)) or b", 30), ("((a)) and b", 31), ("((a)) == b", 33), ("((a)) != b", 34), ("((a)) < b", 35),
            ("((a)) <= b", 36), ("((a)) in b", 37), ("((a)) + b", 38), ("((a)) * b", 40), ("((a)).b", 44),
        ]:
            with self.subTest(text):
                self.assertEqual(expr(text)[:7], [kind, 2, 2] + name(2, "a"))


class Kinds(unittest.TestCase):
    def test_each_one_occurs(self):
        leaves = set(range(1, 8))
        of_stmts = set(range(10, 21))
        of_exprs = set(range(30, 39)) | {40, 43, 44, 45, 48, 49, 50, 51} | set(range(60, 68))
        self.assertEqual(kinds_in(grown(numbers_of(EACH_KIND))), leaves | of_stmts | of_exprs)


class Refusals(unittest.TestCase):
    def test_refused_as_reading_refuses(self):
        for number, text in REFUSED.items():
            with self.subTest(number):
                self.assertEqual(tree(codes(text)), [-number])

    def test_which_one_counts(self):
        for text, number in [
            ("!" * 4097, 1), (" " * 10000, 1), (") !", 2), ("return; 01", 2), ("return; )", 3), ("( ) " + "(" * 13, 3),
            ("(" * 13 + ")", 4), ("return; " + "(" * 13, 4), ("return; a = 1; a = 2;", 5), ("a = 1; a = 2; return;", 6),
            ("f(n = a, b); return;", 7), ("def f(a = 1, a) {}", 6),
        ]:
            with self.subTest(text[:20]):
                self.assertEqual(tree(codes(text)), [-number])

    def test_just_readable(self):
        self.assertEqual(tree(codes("a;" + " " * 4094)), [0, 10, 0, 1, 20, 0, 1] + name(0, "a"))
        self.assertEqual(tree(codes(" " * 4094 + "a;")), [0, 10, 0, 1, 20, 4094, 1] + name(4094, "a"))
        self.assertEqual(expr("(" * 12 + "a" + ")" * 12), name(12, "a"))
        self.assertEqual(
            expr("[" * 12 + "]" * 12), [number for place in range(11) for number in (48, place, 1)] + [48, 11, 0])


if __name__ == "__main__":
    unittest.main()
