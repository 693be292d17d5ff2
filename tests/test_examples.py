"""The examples that the document gives."""

import unittest

from buildtext.desk import tree
from tests.support import codes, free_of, plain_of, renamed, where_of


class Examples(unittest.TestCase):
    def test_where(self):
        for text, answer in [
            ("x = 1", [3, 5]),
            ("f(1,)", [3, 4]),
            ("if x {y = 1;}", [5, 6]),
            ("a = 1; a = 2;", [6, 7]),
            ("f(a = 1, 2);", [7, 9]),
            ("return;", [5, 0]),
            ("x = not not y;", [3, 8]),
            ('"\\x4"', [2, 0]),
            ('x = "\\x4";', [2, 4]),
        ]:
            with self.subTest(text):
                self.assertEqual(where_of(text), answer)

    def test_plain(self):
        self.assertEqual(
            plain_of("def f(a,b=1){return a+(b*2)-(3-a);}"),
            "def f(a, b = 1) {\n  return a + b * 2 - (3 - a);\n}\n",
        )

    def test_tree(self):
        self.assertEqual(
            tree(codes("-x.y;")),
            [0, 10, 0, 1, 20, 0, 1, 43, 0, 1, 44, 1, 2, 3, 1, 1, 120, 67, 2, 1, 7, 3, 1, 121],
        )

    def test_free(self):
        self.assertEqual(free_of("def f(x) { for y in g(x) { z = y; } return z; } h(f, z);"), ["g", "h", "z"])

    def test_rename(self):
        self.assertEqual(renamed("g = 1; def f(h) { return h; }", "g", "h"), -11)
        form = renamed("def f(x) { return x; } y = [f(f) for f in f];", "f", "k")
        self.assertEqual(form, "def k(x) {\n  return x;\n}\ny = [f(f) for f in k];\n")


if __name__ == "__main__":
    unittest.main()
