"""where: SYNTAX and DEEP, and what the grammar allows."""

import unittest

from tests.support import BRACKETS, where_of

READABLE = [
    "", "a;", "1;", '"t";', "true;", "false;", "none;", "(a);", "[];", "{};", "[a];", "[a, b, c];",
    'load "t" a;', 'load "t" a, b, c;', 'load "" a;',
    "def f() {}", "def f(a) {}", "def f(a, b) {}", "def f(a, b = 1) {}", "def f(a = 1, b = 2) {}",
    "def f() { return; }", "def f() { return 1; }", "def f() { a; return a or b; b; }",
    "if a {}", "if a {} else {}", "if a { b; } else { c; d; }", "if {} {}", "if {a: b} {} else {}",
    "if a or b {}", "if a { if b {} else {} } else { if c {} }",
    "for x in y {}", "for x in a in b {}", "for x in a or b { x; }", "for x in {} {}",
    "x = 1;", "x = y == z;", "x == y;", "x == 1;",
    "a or b or c;", "a and b and c;", "not a;", "not a and not b or not c;", "a or not b;",
    "a == b;", "a != b;", "a < b;", "a <= b;", "a in b;", "not a in b;", "(a < b) < c;", "(not a) == b;",
    "a + b - c;", "a * b / c % d;", "-a;", "a - -b;", "a * -b;", "-a * -b + -c;", "-(-a);", "-a.b(c)[d];",
    "f();", "f(a);", "f(a, b);", "f(n = a);", "f(a, n = b, m = c);", "f(a == b);", "f(n = a == b);",
    "f(n, m = n);", "f(n = m)()()[a][b].c.d;",
    "a[b];", "a[b or c];", "a.b;", "1.a;", '"t".a;', "none.a;", "[a].b;", "{}.b;", "(a).b;", "[a][b];", "{}[a]();",
    "[a for x in b];", "[a for x in b if c];", "[a in b for x in c in d if e in f];", "[[a] for x in [b]];",
    "[not a for x in b or c if d or e];", "[[x for x in y] for y in z];",
    "{a: b};", "{a: b, c: d};", "{a: {b: {}}};", "{a: not b};",
    "x=1;y=2;f(x,y);#end",
]

# The fault is at the sign ^, which is taken out.
SYNTAX = [
    "a^", "^;", "a ^b;", "a;^;", "a; ^)", "^}", "^]", "^,;", "^.a;", "^:;", "^=;", "^==;", "^* a;", "^else {}", "^in;",
    "^or;", "^and;", "^+ a;", "^/;", "^%;", "^<;", "^<=;", "^!=;",
    "load ^", "load ^a;", "load ^;", 'load "t"^', 'load "t"^;', 'load "t" ^"u";', 'load "t" a^', 'load "t" a ^b;',
    'load "t" a,^;', 'load "t" a, ^load;', 'load "t" ^1;', 'load "t" a ^= b;', 'load "t"^, a;', 'load ^("t") a;',
    "def^", "def ^(", "def ^1", "def ^if() {}", "def f^", "def f ^{}", "def f(^", "def f(^1", "def f(^,", "def f(a^",
    "def f(a ^b", "def f(a,^)", "def f(a, ^,", "def f(a =^)", "def f(a =^, b", "def f(a ^== b", "def f(a)^",
    "def f(a) ^a", "def f(a)^;", "def f(a) {^", "def f(a) { b ^}", "def f(a) { b; ^)", "def f(^(a",
    "def f(a^.b", "def f(a = b ^c)",
    "if^", "if {a^; }", "if a^", "if a^;", "if a ^b", "if a {^", "if a {} else^", "if a {} else^;",
    "if a {} else ^if b {}", "if a {} else {} ^else {}", "if ^; {}", "if a ^= b {}", "if a {b^}", "if a {b;} ^)",
    "if ^return {}",
    "for^", "for ^1", "for ^(x) in y {}", "for x^", "for x ^= y", "for x^.a in y {}", "for x^, y in z {}", "for x in^",
    "for x in {^", "for x in y^", "for x in y^;", "for x in y in z ^in w {}", "for ^in",
    "def f() { return^", "def f() { return ^}", "def f() { return ^return", "def f() { return a^", "def f() { return a^}",
    "def f() { return a ^b", "def f() { return x ^= 1; }",
    "x =^", "x =^;", "x = ^= 1;", "x = y ^= 1;", "x = 1^", "x = 1 ^y", "x^, y = 1;", "x.y ^= 1;", "x[y] ^= 1;", "(x) ^= 1;",
    "1 ^= 1;", "f() ^= 1;", "true ^= 1;", "not x ^= 1;",
    "a or^", "a or^;", "a or ^or b;", "a and^;", "a and ^or b;", "not^;", "not ^not a;", "not ^and a;", "a ^not in b;",
    "a == ^not b;", "a == ^== b;", "a == b ^== c;", "a < b ^< c;", "a in b ^in c;", "a <= b ^!= c;", "a + ^not b;",
    "a + b == c ^<= d;", "a == b + c ^in d;",
    "a +^;", "a + ^+ b;", "a -^;", "a - - ^- b;", "- ^- a;", "-^;", "- ^not a;", "a *^;", "a * ^* b;", "a * - ^- b;",
    "a %^;", "a /^;", "-a.b-^",
    "f(^", "f(^,", "f(^;", "f(a^", "f(a ^b", "f(a^;", "f(a,^)", "f(a, ^,", "f(a^]", "f(n =^)", "f(n =^,", "f(n = ^= a)",
    "f(n = m ^= a)", "f(1 ^= a)", "f((n) ^= a)", "f(n.m ^= a)", "f(a ^: b)", "f(^*a)", "f(a ^for x in b)", "f(^for",
    "a[^", "a[^]", "a[b^", "a[b^)", "a[b^, c]", "a[n ^= b]", "a[b^: c]", "a[b ^for x in c]",
    "a.^", "a.^1", "a.^;", "a.^(b)", "a.^if", "a.^.b", 'a.^"b"',
    "(^", "(^)", "(a^", "(a^]", "(a^, b)", "(a ^= b)", "(a ^b)", "(a^;",
    "[^", "[^,", "[^)", "[^for x in y]", "[a^", "[a^)", "[a^;", "[a,^]", "[a ^b", "[a, ^,", "[a, b ^for x in y]", "[a ^= b]",
    "[a ^if b]", "[a for^", "[a for ^1", "[a for x^", "[a for x^]", "[a for x^, y in z]", "[a for x in^", "[a for x in^]",
    "[a for x in y^", "[a for x in y^, z]", "[a for x in y ^for z in w]", "[a for x in y if^", "[a for x in y if^]",
    "[a for x in y if z^", "[a for x in y if z ^if w]", "[a for x in y if z ^for w in v]", "[a for x in y if z ^else w]",
    "[a for x in y if z^)", "[a for x in y^)", "[a for ^in y]",
    "{^", "{^1: a}", '{^"a": b}', "{^,", "{a^", "{a^}", "{a^;", "{a ^= b}", "{a:^", "{a:^}", "{a: b^", "{a: b ^c", "{a: b^]",
    "{a: b,^}", "{a: b, ^1: c}", "{a: b, c^}", "{a: b ^: c}", "{a: b ^for x in y}", "{^if: a}", "{^(a): b}", "{^{",
    "a ^{}", "a ^1;", 'a ^"t";', "a ^true;", "1 ^a;", "a ^def f() {}", 'a ^load "t" b;', "a ^return;", "a ^if b {}", "a ^else",
    "a ^for x in y {}", "{} ^{}", "a^:", "x = a ^if b else c;",
]


class Reading(unittest.TestCase):
    def test_readable(self):
        for text in READABLE:
            with self.subTest(text):
                self.assertEqual(where_of(text), [0, 0])

    def test_syntax(self):
        for marked in SYNTAX:
            with self.subTest(marked):
                self.assertEqual(marked.count("^"), 1)
                text = marked.replace("^", "")
                self.assertEqual(where_of(text), [3, marked.index("^")])

    def test_end_stands_at_the_length(self):
        self.assertEqual(where_of("x = 1  "), [3, 7])
        self.assertEqual(where_of("x = 1 # remark"), [3, 14])
        self.assertEqual(where_of("x = 1\n\n"), [3, 7])
        self.assertEqual(where_of("x" + " " * 4095), [3, 4096])

    def test_syntax_counts_ahead_of_place_and_number(self):
        self.assertEqual(where_of("return; )"), [3, 8])
        self.assertEqual(where_of("a = 1; a = 2; b"), [3, 15])
        self.assertEqual(where_of("f(a = 1, 2)"), [3, 11])

    def test_the_first_of_several(self):
        self.assertEqual(where_of("a b c ) ]"), [3, 2])


def nested(opening, inner, times):
    closing = "".join(BRACKETS[sign] for sign in reversed(opening) if sign in BRACKETS)
    return opening * times + inner + closing * times


class Deep(unittest.TestCase):
    def test_twelve_and_thirteen_of_each_kind(self):
        for opening, inner in [("(", "a"), ("[", "a"), ("[", ""), ("{a:", "b"), ("f(", "a"), ("f(", ""), ("f(n=", "b"), ("a[", "b")]:
            with self.subTest(opening):
                self.assertEqual(where_of(nested(opening, inner, 12) + ";"), [0, 0])
                at = 12 * len(opening) + min(opening.index(sign) for sign in opening if sign in BRACKETS)
                self.assertEqual(where_of(nested(opening, inner, 13) + ";"), [4, at])

    def test_blocks(self):
        self.assertEqual(where_of(nested("if x {", "", 12)), [0, 0])
        self.assertEqual(where_of(nested("if x {", "", 13)), [4, 12 * 6 + 5])
        self.assertEqual(where_of(nested("for x in y {", "", 12)), [0, 0])
        self.assertEqual(where_of(nested("for x in y {", "", 13)), [4, 12 * 12 + 11])
        self.assertEqual(where_of("def f() {" + nested("if x {", "", 11) + "}"), [0, 0])
        self.assertEqual(where_of("def f() {" + nested("if x {", "", 12) + "}"), [4, 9 + 11 * 6 + 5])
        elses = "if x {} else {}"
        self.assertEqual(where_of(nested("if x {", elses, 11)), [0, 0])
        self.assertEqual(where_of(nested("if x {", elses, 12)), [4, 12 * 6 + 5])
        self.assertEqual(where_of("if x {} else {" * 13), [4, 12 * 14 + 5])

    def test_blocks_and_other_brackets_together(self):
        self.assertEqual(where_of(nested("if x {", "f([a]);", 10)), [0, 0])
        self.assertEqual(where_of(nested("if x {", "f([a]);", 11)), [4, 66 + 2])
        self.assertEqual(where_of(nested("if x {", "a;", 12)), [0, 0])
        self.assertEqual(where_of(nested("if x {", "f();", 12)), [4, 72 + 1])
        self.assertEqual(where_of(nested("if x {", "a[b];", 12)), [4, 72 + 1])
        self.assertEqual(where_of(nested("if x {", "[];", 12)), [4, 72])
        self.assertEqual(where_of(nested("if x {", "{};", 12)), [4, 72])
        self.assertEqual(where_of(nested("if x {", "(a);", 12)), [4, 72])
        self.assertEqual(where_of(nested("if x {", "[a for x in y];", 12)), [4, 72])
        self.assertEqual(where_of(nested("if x {", "def f() {}", 12)), [4, 72 + 5])
        # Eleven around it: the ( of the def is the 12th, and closed ahead of the BLOCK.
        self.assertEqual(where_of(nested("if x {", "def f() {}", 11)), [5, 66])
        self.assertEqual(where_of(nested("if x {", "def f(a = []) {}", 11)), [4, 66 + 10])

    def test_brackets_that_are_closed_do_not_count(self):
        self.assertEqual(where_of("(a);" * 20), [0, 0])
        self.assertEqual(where_of("f" + "()" * 20 + "[a]" * 20 + ";"), [0, 0])
        self.assertEqual(where_of("if a {} " * 20), [0, 0])
        self.assertEqual(where_of(nested("(", "f(a) + [b][c]", 11) + ";"), [0, 0])
        self.assertEqual(where_of("[" * 11 + "[], {}, f(), (a), [a for x in y], {n: a}" + "]" * 11 + ";"), [0, 0])
        self.assertEqual(where_of("".join("def f%d(a = [b]) { (c); }" % k for k in range(20))), [0, 0])

    def test_a_bracket_that_cannot_stand_there(self):
        twelve = "(" * 12
        self.assertEqual(where_of(twelve + "a {"), [3, 14])
        self.assertEqual(where_of(twelve + "a.("), [3, 14])
        self.assertEqual(where_of(twelve + "a.["), [3, 14])
        self.assertEqual(where_of(twelve + "a]"), [3, 13])
        self.assertEqual(where_of("{a:" * 12 + "b, {"), [3, 39])
        self.assertEqual(where_of("{a:" * 11 + "{ {"), [3, 35])
        self.assertEqual(where_of(nested("if x {", "def f[", 12)), [3, 72 + 5])
        self.assertEqual(where_of(nested("if x {", "for (", 12)), [3, 72 + 4])

    def test_which_is_met_first(self):
        self.assertEqual(where_of("(" * 13 + ") )"), [4, 12])
        self.assertEqual(where_of("( ) " + "(" * 13), [3, 2])
        self.assertEqual(where_of("(" * 12 + "a b" + "("), [3, 14])
        self.assertEqual(where_of("(" * 12), [3, 12])
        self.assertEqual(where_of("(" * 13), [4, 12])
        self.assertEqual(where_of("(" * 14), [4, 12])
        self.assertEqual(where_of("a a" + "[" * 13), [3, 2])

    def test_deep_counts_ahead_of_place_and_number(self):
        self.assertEqual(where_of("return; f(a = 1, 2); " + "(" * 13), [4, 21 + 12])


if __name__ == "__main__":
    unittest.main()
