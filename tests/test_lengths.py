"""LONG and ROOM at their edges, and texts that are long but not deep."""

import sys
import unittest

from buildtext.desk import free, names, plain, rename, same, size, tree, where
from tests.support import codes, grown, leaves_nodes_depth, numbers_of, plain_of, where_of


class Long(unittest.TestCase):
    def test_the_empty_text(self):
        self.assertEqual(where([]), [0, 0])
        self.assertEqual(plain([]), [0])

    def test_4096_bytes_and_more(self):
        self.assertEqual(where_of("a;" + " " * 4094), [0, 0])
        self.assertEqual(plain_of("a;" + " " * 4094), "a;\n")
        for length in (4097, 4098, 8192, 9999, 10000):
            with self.subTest(length):
                self.assertEqual(where_of("a;" + " " * (length - 2)), [1, 0])
                self.assertEqual(plain_of("a;" + " " * (length - 2)), -1)
                for call in (tree, names, free, size):
                    self.assertEqual(call(codes("a;" + " " * (length - 2))), [-1])
                self.assertEqual(rename(codes("a=1;".ljust(length)), codes("a"), codes("b")), [-1])
                self.assertEqual(same(codes("a;" + " " * (length - 2)), codes("a;")), [-1])
                self.assertEqual(same(codes("a;"), codes("a;" + " " * (length - 2))), [-21])

    def test_a_faulty_text_is_long_first(self):
        for beginning in ["!", ")", "(" * 13, "return;", "a = 1; a = 2;", "f(n = 1, 2);", '"', "0" * 5000]:
            with self.subTest(beginning):
                short = beginning.ljust(4096)
                if len(short) == 4096:
                    self.assertIn(where_of(short)[0], range(2, 8))
                self.assertEqual(where_of(beginning.ljust(4097)), [1, 0])
                self.assertEqual(plain_of(beginning.ljust(4097)), -1)
                self.assertEqual(where_of(beginning.ljust(10000)), [1, 0])

    def test_a_fault_at_the_last_byte(self):
        self.assertEqual(where_of(" " * 4095 + "!"), [2, 4095])
        self.assertEqual(where_of(" " * 4095 + ")"), [3, 4095])
        self.assertEqual(where_of(" " * 4095 + "a"), [3, 4096])


def indented(count, extra):
    """A text whose plain form has count STMTs of 27 bytes, and a line more of 3 + extra bytes."""
    return "if x {" * 12 + "a;" * count + "}" * 12 + "b" * (1 + extra) + ";"


class Room(unittest.TestCase):
    def test_8192_bytes_and_more(self):
        fixed = len(plain_of(indented(0, 0)))
        count, extra = divmod(8192 - fixed, 27)
        self.assertLessEqual(extra, 30)
        self.assertEqual(len(plain_of(indented(count, extra))), 8192)
        self.assertEqual(plain(codes(indented(count, extra)))[0], 0)
        self.assertEqual(plain(codes(indented(count, extra + 1))), [-8])
        self.assertEqual(where_of(indented(count, extra + 1)), [0, 0])

    def test_far_more(self):
        text = "if x {" * 12 + "a;" * 2006 + "}" * 12
        self.assertEqual(len(text), 4096)
        self.assertEqual(where_of(text), [0, 0])
        self.assertEqual(plain_of(text), -8)

    def test_room_comes_last(self):
        text = "if x {" * 12 + "a;" * 1000 + "b = 1;" + "}" * 12
        self.assertEqual(plain_of(text), -5)

    def test_a_form_of_8192_bytes_by_a_sum(self):
        # 4 bytes more of the plain form for each 2 bytes of the text.
        text = "a" + "+a" * 2046 + ";"
        self.assertEqual(len(plain_of(text)), 1 + 4 * 2046 + 2)
        text = "abc" + "+a" * 2046 + ";"
        self.assertEqual((len(text), len(plain_of(text))), (4096, 8189))
        quoted = '"' + "a" * 1000 + '"'
        text = quoted + "+a" * 1546 + ";"
        self.assertEqual(len(plain_of(text)), 1002 + 4 * 1546 + 2)


class LongNotDeep(unittest.TestCase):
    def answered(self, text, form):
        self.assertGreater(len(text), 4090)
        self.assertLessEqual(len(text), 4096)
        self.assertEqual(where_of(text), [0, 0])
        self.assertEqual(plain_of(text), form)
        self.assertEqual(tree(codes(text))[:3], [0, 10, 0])
        grown(numbers_of(text))
        self.assertEqual(same(codes(text), codes(text)), [1])
        self.assertEqual(same(codes(text), codes("a;")), [0])
        self.assertEqual(same(codes("a;"), codes(text)), [0])
        self.assertEqual((names(codes(text))[0], free(codes(text))[0]), (0, 0))
        self.assertEqual(tuple(size(codes(text))), leaves_nodes_depth(text))
        self.assertIn(rename(codes(text), codes("f"), codes("q"))[0], (0, -10))

    def test_rows(self):
        self.answered("a" + "+b" * 2046 + ";", "a" + " + b" * 2046 + ";\n")
        self.answered("a" + "*b" * 2046 + ";", "a" + " * b" * 2046 + ";\n")
        self.answered("a" + " or b" * 818 + ";", "a" + " or b" * 818 + ";\n")
        self.answered("a" + " and b" * 682 + ";", "a" + " and b" * 682 + ";\n")
        self.answered("[a" + ",b" * 2045 + "];", "[a" + ", b" * 2045 + "];\n")
        self.answered("f(a" + ",b" * 2045 + ");", "f(a" + ", b" * 2045 + ");\n")
        self.answered("a" + "()" * 2046 + ";", "a" + "()" * 2046 + ";\n")
        self.answered("a" + ".b" * 2046 + ";", "a" + ".b" * 2046 + ";\n")
        self.answered("a" + "[b]" * 1364 + ";", "a" + "[b]" * 1364 + ";\n")
        self.answered("a;" * 2047, "a;\n" * 2047)
        self.answered("if a{}" * 682, "if a {\n}\n" * 682)
        self.answered("if a{" + "b;" * 2045 + "}", -8)
        self.answered("if a{" + "b; " * 1363 + "}", "if a {\n" + "  b;\n" * 1363 + "}\n")
        self.answered("#" * 4095 + "\n", "")
        self.answered(" " * 4095, "")

    def test_rows_of_names(self):
        names = ["n%d" % number for number in range(1000, 1580)]
        short = names[:500]
        for text, form in [
            ("{" + ",".join(name + ":1" for name in short) + "};", "{" + ", ".join(name + ": 1" for name in short) + "};\n"),
            ("f(" + ",".join(name + "=1" for name in short) + ");", "f(" + ", ".join(name + " = 1" for name in short) + ");\n"),
            ("def f(" + ",".join(names) + "){}", "def f(" + ", ".join(names) + ") {\n}\n"),
            ('load "t" ' + ",".join(names) + ";", 'load "t" ' + ", ".join(names) + ";\n"),
            ("".join(name + "=1;" for name in short), "".join(name + " = 1;\n" for name in short)),
        ]:
            with self.subTest(text[:10]):
                self.answered(text.ljust(4096), form)

    def test_as_deep_as_can_be_and_long(self):
        level = "a or b and not c == d + e * -f(n = "
        text = level * 12 + "x" + ")" * 12 + ";"
        self.assertEqual(plain_of(text), text + "\n")
        text = "if a {" * 6 + level * 6 + "x" + ")" * 6 + ";" + "}" * 6
        self.assertEqual(where_of(text), [0, 0])

    def test_calls_within_one_another_are_few(self):
        level = "a or b and not c == d + e * -f(n = "
        text = codes("a = " + level * 12 + "x" + ")" * 12 + ";")
        allowed = sys.getrecursionlimit()
        frame, used = sys._getframe(), 0
        while frame is not None:
            frame, used = frame.f_back, used + 1
        sys.setrecursionlimit(used + 300)
        try:
            answers = (where(text), plain(text)[0], tree(text)[0], same(text, list(text)))
            answers += (names(text)[0], free(text)[0], rename(text, codes("a"), codes("k"))[0], len(size(text)))
        finally:
            sys.setrecursionlimit(allowed)
        self.assertEqual(answers, ([0, 0], 0, 0, [1], 0, 0, 0, 3))


class LongAnswers(unittest.TestCase):
    def test_each_number_of_a_long_row(self):
        expected = [0, 10, 0, 2048]
        for number in range(2048):
            expected += [20, 2 * number, 1, 3, 2 * number, 1, 97]
        self.assertEqual(tree(codes("a;" * 2048)), expected)

    def test_each_number_of_a_long_sum(self):
        expected = [0, 10, 0, 1, 20, 0, 1, 38, 0, 2047, 3, 0, 1, 97]
        for number in range(2046):
            expected += [61, 2 * number + 1, 1, 3, 2 * number + 2, 1, 98]
        self.assertEqual(tree(codes("a" + "-b" * 2046 + ";")), expected)

    def test_each_number_of_long_calls(self):
        expected = [0, 10, 0, 1, 20, 0, 1, 44, 0, 2047, 3, 0, 1, 97]
        for number in range(2046):
            expected += [65, 2 * number + 1, 0]
        self.assertEqual(tree(codes("a" + "()" * 2046 + ";")), expected)

    def test_long_and_as_deep_as_can_be(self):
        level = "a or b and not c == d + e * -f(n = "
        text = level * 12 + "x" + "+x" * 1500 + ")" * 12 + ";"
        # At each level nodes 30, 31, 32, 33, 38, 60, 40, 62, 43, 44, 65 and 45, one within the other.
        self.assertEqual(leaves_nodes_depth(text), (12 * 7 + 1501, 2 + 12 * 12 + 1501, 2 + 12 * 12 + 3))
        self.assertEqual(same(codes(text), codes(text.replace("+", " + ", 200))), [1])
        self.assertEqual(same(codes(text), codes(text[::-1].replace("x", "y", 1)[::-1])), [0])
        blocks = "if x {" * 12 + "a;" * 2006 + "}" * 12
        self.assertEqual(plain_of(blocks), -8)
        self.assertEqual(leaves_nodes_depth(blocks), (12 + 2006, 1 + 24 + 2006, 1 + 24 + 2))
        self.assertEqual(same(codes(blocks), codes(blocks)), [1])


if __name__ == "__main__":
    unittest.main()
