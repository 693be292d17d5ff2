"""rename: what is exchanged and what is not, the refusals and their order."""

import unittest

from buildtext.desk import rename
from tests.support import EACH_KIND, REFUSED, codes, plain_of, renamed

KEPT_WORDS = "load def if else for in return or and not true false none".split()

NO_NAMES = KEPT_WORDS + [
    "", "n" * 33, "n" * 34, "n" * 4096, "n" * 4097, "n" * 10000, "0", "1a", "9" * 32, "a b", " a", "a ", "a\n", "\ta", "a#", "#a", "a-b", "-a",
    "a.b", ".a", "a.", "a(", "(a)", "[a]", "a;", "a,b", "a=", '"a"', '"', "a\x00", "\x00", "a\x7f", "a\x80", "\xe9", "a\xff", "\xffa", "!", "$a", "@",
    "`", "[", "/", ":", "{", "^", "a/", "a:", "a@", "a[", "a`", "a{", "in in", "if ", " if", "+", "==", "# a\na", "a\nb", "a" * 16 + " " + "b" * 15,
]

ALL_NAMES = [
    "a", "Z", "_", "__", "_9", "a0", "A9z_", "n" * 31, "n" * 32, "_" * 32, "n0" * 16, "If", "IF", "in_", "_in", "inn", "i", "fo", "fors", "none0",
    "trUe", "loads", "deF", "orr", "not1", "returns", "elseif",
]


class RenameTest(unittest.TestCase):
    def from_a_to_b(self, rows):
        """Each row: a text in which A stands for what is exchanged. A is a in the text that is handed in and b in the
        other, which has the form that's asked for; they are read alike otherwise."""
        for text in rows:
            with self.subTest(text):
                given, asked = text.replace("A", "a"), text.replace("A", "b")
                form = plain_of(asked)
                self.assertIsInstance(form, str)
                self.assertNotEqual(given, asked)
                self.assertEqual(renamed(given, "a", "b"), form)


class Exchanged(RenameTest):
    def test_byte_by_byte(self):
        self.assertEqual(rename(codes("a=1;"), codes("a"), codes("bc")), [0] + codes("bc = 1;\n"))
        self.assertEqual(renamed("a = b + a;", "a", "z"), "z = b + z;\n")
        self.assertEqual(renamed('load "a" a, c; a(a = a).a;', "a", "x"), 'load "a" x, c;\nx(a = x).a;\n')
        self.assertEqual(renamed("def f(f = f) { return f; } f(f);", "f", "g"), "def g(f = g) {\n  return f;\n}\ng(g);\n")
        self.assertEqual(
            renamed("def f(x){if x{return f(x);}else{y=f;}for z in f{z;}}", "f", "longer"),
            "def longer(x) {\n  if x {\n    return longer(x);\n  } else {\n    y = longer;\n  }\n  for z in longer {\n    z;\n  }\n}\n")

    def test_where_it_is_given(self):
        self.from_a_to_b([
            "A = 1;", "def A() {}", 'load "t" A;', 'load "t" A, c;', 'load "t" c, A;', 'load "t" c, A, d;', "c = 1; A = 2; d = 3;",
            'c = 1; def A() {} load "t" d;',
        ])

    def test_uses_before_and_behind(self):
        self.from_a_to_b([
            "A; A = 1; A;", "A(); def A() {} A();", 'A; load "t" A; A;', "c = A; A = c;", "A = A;", "def f() { A; } A = 1;", "A = 1; def f() { A; }",
            "def A() { return A(); }", "if A { A; } else { A; } A = 1;", "A = 1; for x in A { A; x; } A;", "A = 1; def f(x = A, y = A) { A; return A; }",
            "A = 1; def f() { y = A; for x in A { if A { return A; } } }", "A = 1; [A for x in A if A];", "A = 1; [[A for x in A if A] for y in [A]];",
        ])

    def test_uses_in_each_expression(self):
        self.from_a_to_b([
            "A = 1; A or c or A;", "A = 1; A and c and A;", "A = 1; not A;", "A = 1; A == A; A != A; A < A; A <= A; A in A;", "A = 1; A + c - A;",
            "A = 1; A * c / A % A;", "A = 1; -A;", "A = 1; A(A, n = A)[A].n;", "A = 1; [A, [A]];", "A = 1; {n: A, m: {k: A}};", "A = 1; ((A));",
            "A = 1; (A + A) * -(A or A);", "A = 1; f(A)(A)[A](n = A);",
        ])

    def test_the_form_is_the_plain_one(self):
        self.assertEqual(renamed("a=1;#a\n((a))+(a*2)-(3-a);", "a", "b"), "b = 1;\nb + b * 2 - (3 - b);\n")
        self.assertEqual(renamed('a="\\x41\\x0a";', "a", "b"), 'b = "A\\n";\n')
        for old in ["a", "b", "f", "x"]:
            form = renamed(EACH_KIND, old, "fresh")
            self.assertEqual(renamed(form, "fresh", old), plain_of(EACH_KIND))

    def test_names_of_all_lengths(self):
        for count in (1, 2, 31, 32):
            for other in (1, 2, 31, 32):
                with self.subTest(old=count, new=other):
                    old, new = "a" * count, "z" * other
                    self.assertEqual(renamed(old + "=1;-" + old + ";", old, new), new + " = 1;\n-" + new + ";\n")

    def test_other_names_stay(self):
        self.assertEqual(
            renamed("a = 1; aa = 2; A = 3; a_ = 4; aaa; a + aa + A + a_ + _a;", "a", "b"),
            "b = 1;\naa = 2;\nA = 3;\na_ = 4;\naaa;\nb + aa + A + a_ + _a;\n")
        self.assertEqual(renamed("ab = a; a = ab;", "ab", "x"), "x = a;\na = x;\n")


class Kept(RenameTest):
    def test_leaves_of_kind_7(self):
        self.from_a_to_b([
            "A = {a: 1};", "A = {a: A};", "A = f(a = 1);", "A = f(a = A);", "A = c.a;", "A = A.a;", "A = 1.a.a();", "A = A(a = A.a)[{a: A}.a];",
            "def A(x) { return x.a(a = {a: A}); }",
        ])

    def test_quoted_texts_and_remarks(self):
        self.from_a_to_b(['A = "a";', 'A = "a" + A + "\\x61";', 'load "a" A;'])
        self.assertEqual(renamed("# a\na = 1; # a", "a", "b"), "b = 1;\n")

    def test_a_param(self):
        self.from_a_to_b([
            "A = 1; def f(a) { a; return a; } A;", "A; def f(a, c) { if a { a; } else { for x in a { a; } } } A = 1;", "A = 1; def f(a = A) { a; }",
            "A = 1; def f(c, a = A, d = A) { a; }", "def A(a) { a; } A;", "def A(a = A) { a(a); }", "A = 1; def f(a) { a; } def g(c) { A; }",
            "A = 1; def f(a) { [a for x in a if a]; }", "A = 1; def f(a) { c = a; a = c; }", "A = 1; def f(a, c = [A for x in A]) {}",
            "A = 1; def f(a, c = [a for a in A if a]) {}",
        ])

    def test_a_giving_in_a_def(self):
        self.from_a_to_b([
            "A = 1; def f() { a = 2; a; } A;", "A = 1; def f() { a; a = 2; } A;", "A = 1; def f() { a = a; }", "A = 1; def f() { if a { a = 1; } a; } A;",
            "A = 1; def f() { if 1 {} else { a = 1; } return a; }", "A = 1; def f() { for x in a { a = x; } return a; }",
            "A = 1; def f(x = A) { a = x; }", "def A() { a = 1; return a; } A();", 'load "t" A; def f() { a = 1; } def g() { A; }',
            "A = 1; def f() { if 1 { for x in [] { if 2 { a = 1; } } } a; } def g() { c = A; }",
        ])

    def test_a_for_in_a_def(self):
        self.from_a_to_b([
            "A = 1; def f() { for a in [] { a; } a; } A;", "A = 1; def f() { a; for a in a { a; } }", "A = 1; def f() { if a { for a in [] {} } }",
            "A = 1; def f() { for a in [a for x in a] {} }", "A = 1; def f(x = A) { for a in x { return a; } }", "def A() { for a in a {} } A;",
            "A = 1; def f() { for c in a { for a in c { a; } } } def g() { for c in A { A; } }",
        ])

    def test_a_for_outside_of_all_defs(self):
        self.from_a_to_b([
            "A = 1; for a in [] { a; } A;", "A = 1; for a in A { a; }", "A; for a in f(A) { if a { a; } else { a; } } A = 1;",
            "A = 1; for a in A { for a in a { a; } a; } A;", "A = 1; for c in A { for a in A { a; c; } A; }", "A = 1; for a in A { for c in a { a; } }",
            "A = 1; if A { for a in A { a; } A; } else { A; }", "A = 1; for a in [a for a in A if a] { a; }", "A = 1; for a in [A for x in A if A] { a; }", "def A() {} for a in A() { a(); }",
            "A = 1; for a in A { [a for x in a if a]; [a for a in a]; } def f() { A; }",
        ])

    def test_a_for_in_a_list(self):
        self.from_a_to_b([
            "A = [a for a in []];", "A = [a for a in A];", "A = [a for a in A if a];", "A = 1; [A for x in A if A]; [a for a in A if a]; A;",
            "A = [[a for a in a] for a in A];", "A = [[a for x in a if a] for a in A];", "A = [[a for a in A] for x in A if A];",
            "A = [1 for a in [a for a in A]];", "A = [a for a in [A for x in A]];", "A = [1 for a in A if [a for a in a]];",
            "A = [1 for a in A if [a for x in a]];", "A = [1 for x in A if [a for a in A]];", "A = [f(a, n = a)[a].a for a in f(A)];",
            "A = 1; def f() { return [a for a in A if a] + A; }", "A = 1; def f(c = [a for a in A]) { A; }", "A = [a for a in []] + A;",
        ])

    def test_each_kind_of_local_in_one_text(self):
        self.from_a_to_b([
            "A = [a for a in A]; for a in A { a; } def f(a = A) { a; } def g() { a = 1; } def h() { for a in a { a; } } def i() { A.a; } A(a = A);",
        ])

    def test_free_names_stay(self):
        self.assertEqual(renamed("a = c; d(e = g);", "a", "b"), "b = c;\nd(e = g);\n")


class NameRefused(unittest.TestCase):
    def test_old_and_new(self):
        for text in NO_NAMES:
            with self.subTest(text[:40]):
                self.assertEqual(renamed("a = 1;", text, "b"), -9)
                self.assertEqual(renamed("a = 1;", "a", text), -9)
                self.assertEqual(renamed("a = 1;", text, text), -9)

    def test_each_byte(self):
        letters = codes("abcdefghijklmnopqrstuvwxyzABCDEFGHIJKLMNOPQRSTUVWXYZ_")
        text, old = codes("q9 = 1;"), codes("q9")
        for byte in range(256):
            with self.subTest(byte):
                alone, behind = rename(text, old, [byte]), rename(text, old, [113, byte])
                self.assertEqual(alone[0], 0 if byte in letters else -9)
                is_word = byte in letters or byte in codes("0123456789")
                self.assertEqual(behind[0], -9 if not is_word else -11 if byte == 57 else 0)
                self.assertEqual(rename(text, [byte], old)[0], -10 if byte in letters else -9)

    def test_names(self):
        for name in ALL_NAMES:
            with self.subTest(name):
                self.assertEqual(renamed("x = 1; x;", "x", name), name + " = 1;\n" + name + ";\n")
                self.assertEqual(renamed(name + "=" + name + ";", name, "x"), "x = x;\n")

    def test_ahead_of_reading(self):
        for text in REFUSED.values():
            with self.subTest(text[:20]):
                self.assertEqual(renamed(text, "", "b"), -9)
                self.assertEqual(renamed(text, "a", "1"), -9)
                self.assertEqual(renamed(text, "if", "n" * 33), -9)

    def test_ahead_of_absent_and_taken(self):
        self.assertEqual(renamed("a = 1;", "c", "in"), -9)
        self.assertEqual(renamed("a = 1;", "in", "a"), -9)
        self.assertEqual(renamed("", "a", ""), -9)


class ReadingRefused(unittest.TestCase):
    def test_each(self):
        for number, text in REFUSED.items():
            with self.subTest(number):
                self.assertEqual(renamed(text, "a", "b"), -number)
                self.assertEqual(renamed(text, "q", "a"), -number)
                self.assertEqual(renamed(text, "q", "q"), -number)
                if number > 1:
                    self.assertEqual(renamed("q = 1; " + text, "q", "z"), -number)

    def test_a_long_text(self):
        self.assertEqual(renamed("a = 1;".ljust(4096), "a", "b"), "b = 1;\n")
        self.assertEqual(renamed("a = 1;".ljust(4097), "a", "b"), -1)
        self.assertEqual(renamed("a = 1;".ljust(10000), "a", "b"), -1)


class Absent(unittest.TestCase):
    def test_not_given_at_file_level(self):
        for text in [
            "", "b = 1;", "a;", "a.a;", "f(a = 1);", "{a: 1};", '"a";', 'load "a" c;', "def f(a) { a; }", "def f(a = 1) {}", "def f() { a = 1; }",
            "def f() { for a in [] {} }", "def f() { if 1 { a = 1; } }", "for a in [] { a; }", "if 1 { for a in [] {} }", "[a for a in []];",
            "x = [a for a in a];", "A = 1; aa = 2;", "# a = 1;", "a == 1;",
        ]:
            with self.subTest(text):
                self.assertEqual(renamed(text, "a", "z"), -10)

    def test_ahead_of_taken(self):
        self.assertEqual(renamed("b = 1;", "a", "b"), -10)
        self.assertEqual(renamed("a; b;", "a", "b"), -10)
        self.assertEqual(renamed("a;", "a", "a"), -10)
        self.assertEqual(renamed("def f(a) { b = a; }", "a", "b"), -10)

    def test_ahead_of_room(self):
        text = "if x {" * 12 + "a;" * 2006 + "}" * 12
        self.assertEqual(plain_of(text), -8)
        self.assertEqual(renamed(text, "a", "b"), -10)
        self.assertEqual(renamed(text, "c", "x"), -10)


class Taken(unittest.TestCase):
    def test_new_is_given_or_used(self):
        for text in [
            "a = b;", "a = 1; b;", "b; a = 1;", "a = 1; b = 2;", 'a = 1; load "t" b;', 'load "t" a, b;', "a = 1; def b() {}", "def a(b) {}", "def a(c = b) {}",
            "def a() { b = 1; }", "def a() { b; }", "def a() { for b in [] {} }", "a = 1; for b in [] {}", "a = 1; for x in b {}", "a = 1; if b {}",
            "a = 1; if 1 { b; }", "a = 1; if 1 {} else { b; }", "a = [1 for b in []];", "a = [b for x in []];", "a = [1 for x in b];", "a = [1 for x in [] if b];",
            "a = -b;", "a = not b;", "a = b.c;", "a = c[b];", "a = c(b);", "a = c(d = b);", "a = {c: b};", "a = 1 + b;", "a = 1 * b;", "a = 1 or b;", "a = 1 and b;",
            "a = 1 == b;", "a = [b];", "def a() { return b; }", "def f() { b = 1; } a = 2;",
        ]:
            with self.subTest(text):
                self.assertEqual(renamed(text, "a", "b"), -11)

    def test_old_and_new_the_same(self):
        for text in ["a = 1;", "def a() {}", 'load "t" a;', "a = a;"]:
            with self.subTest(text):
                self.assertEqual(renamed(text, "a", "a"), -11)

    def test_a_leaf_of_another_kind_is_not_in_the_way(self):
        for text, form in [
            ("a = {b: 1};", "b = {b: 1};\n"), ("a = c(b = 1);", "b = c(b = 1);\n"), ("a = c.b;", "b = c.b;\n"), ('a = "b";', 'b = "b";\n'),
            ('load "b" a;', 'load "b" b;\n'), ("# b\na = 1;", "b = 1;\n"), ("a = bb + B;", "b = bb + B;\n"), ("a = a.b(b = {b: a});", "b = b.b(b = {b: b});\n"),
        ]:
            with self.subTest(text):
                self.assertEqual(renamed(text, "a", "b"), form)
                self.assertEqual(renamed(form, "b", "a"), plain_of(text))

    def test_ahead_of_room(self):
        text = "a = 1;" + "if x {" * 12 + "a;" * 1990 + "}" * 12
        self.assertEqual(plain_of(text), -8)
        self.assertEqual(renamed(text, "a", "x"), -11)
        self.assertEqual(renamed(text, "a", "a"), -11)
        self.assertEqual(renamed(text, "a", "b"), -8)
        self.assertEqual(renamed(text, "b", "x"), -10)


class Room(unittest.TestCase):
    def test_8192_bytes_and_more(self):
        # 219 uses and the giving: each byte that new is longer makes the form 220 bytes longer.
        text = "a=1;" + "-a;" * 219
        fixed = len(plain_of(text)) - 220
        for count in (31, 32):
            for more in (0, 1, 2):
                left = 8192 - fixed - 220 * count - len('"";\n') + more
                given = text + '"' + "z" * left + '";'
                form = plain_of(given)
                with self.subTest(count=count, more=more):
                    self.assertLess(len(form), 8192)
                    asked = form.replace("a", "n" * count)
                    self.assertEqual(len(asked), 8192 + more)
                    self.assertEqual(renamed(given, "a", "n" * count), asked if more == 0 else -8)
                    self.assertEqual(renamed(given, "a", "n" * (count - 1)), form.replace("a", "n" * (count - 1)))

    def test_far_more(self):
        text = "a=1;" + "a;" * 2046
        self.assertEqual(len(text), 4096)
        self.assertEqual(len(renamed(text, "a", "n")), 7 + 3 * 2046)
        self.assertEqual(len(renamed(text, "a", "nn")), 8192)
        self.assertEqual(renamed(text, "a", "nnn"), -8)
        self.assertEqual(renamed(text, "a", "n" * 32), -8)

    def test_the_form_of_the_text_itself_may_have_more(self):
        text = "if x{" * 12 + "a0;" * 285 + "}" * 12 + "a0=1;"
        self.assertEqual(plain_of(text), -8)
        self.assertEqual(renamed(text, "a0", "b"), plain_of(text.replace("a0", "b")))
        self.assertEqual(renamed(text, "a0", "b0"), -8)


class LongTexts(unittest.TestCase):
    def test_as_long_as_can_be(self):
        self.assertEqual(renamed("a=1;" + "a;" * 2046, "a", "b"), "b = 1;\n" + "b;\n" * 2046)
        self.assertEqual(renamed("a=a" + "+a" * 2046 + ";", "a", "b"), "b = b" + " + b" * 2046 + ";\n")
        self.assertEqual(renamed("a=a" + "()" * 2046 + ";", "a", "b"), "b = b" + "()" * 2046 + ";\n")
        self.assertEqual(renamed("a=a" + ".a" * 2046 + ";", "a", "b"), "b = b" + ".a" * 2046 + ";\n")

    def test_as_deep_as_can_be(self):
        self.assertEqual(renamed("a=" + "[" * 12 + "a" + "]" * 12 + ";", "a", "b"), "b = " + "[" * 12 + "b" + "]" * 12 + ";\n")
        self.assertEqual(
            renamed("a=" + "[" * 12 + "a" + " for a in a]" * 12 + ";", "a", "b"),
            "b = " + "[" * 12 + "a" + " for a in a]" * 11 + " for a in b];\n")
        self.assertEqual(
            renamed("a=" + "[" * 12 + "a" + " for x in a]" * 12 + ";", "a", "b"), "b = " + "[" * 12 + "b" + " for x in b]" * 12 + ";\n")


if __name__ == "__main__":
    unittest.main()
