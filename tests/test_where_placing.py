"""where: PLACE, TWICE and BEHIND, in each form, and which of several counts."""

import unittest

from tests.support import plain_of, where_of

# The fault is at the sign ^, which is taken out.
PLACE = [
    'if a { ^load "t" b; }', 'for x in y { ^load "t" b; }', 'def f() { ^load "t" b; }', 'if a {} else { ^load "t" b; }',
    "if a { ^def f() {} }", "for x in y { ^def f() {} }", "def f() { ^def g() {} }", "if a {} else { ^def f() {} }",
    "def f() { if a { ^def g() {} } }", "if a { if b { c; ^def g() {} } }",
    "^return;", "^return a;", "a; ^return (b);", "if a { ^return; }", "if a {} else { ^return; }", "for x in y { ^return x; }",
    "def f() {} ^return;", "if a { if b { c; ^return; } }",
    "if a { ^b = 1; }", "if a {} else { ^b = 1; }", "for x in y { ^x = 1; }", "if a { if b { ^c = (d); } }",
    "for x in y { b; ^c = x; }", "def f() { b = 1; } if a { ^b = 1; }",
]
TWICE = [
    "a = 1; ^a = 2;", "a = 1; b = 2; c = 3; ^b = 4;", 'load "t" a, ^a;', 'load "t" a; load "t" ^a;', 'load "t" a, b, c, ^b;',
    'load "t" a; ^a = 1;', 'load "t" a; def ^a() {}', "def f() {} def ^f() {}", "def f() {} ^f = 1;", "f = 1; def ^f() {}",
    'f = 1; load "t" g, ^f;', 'def f() {} load "t" ^f;', "a = 1; def f() {} if f { f; } ^a = 2;",
    "def f(a, ^a) {}", "def f(a, b, c, ^b) {}", "def f(a, ^a = 1) {}", "def f(a = 1, ^a = 2) {}", "def f(a, b = a, ^b = a) {}",
    "{n: a, ^n: a};", "{n: a, m: b, ^n: c};", "x = {n: a, m: [f({p: b, ^p: c})]};", "if {a: b, ^a: c} {}",
    "def f() { return {a: b, ^a: c}; }", "def f(a = {b: c, ^b: d}) {}", "a[{b: c, ^b: d}];", "{b: c, ^b: d}.e;",
    "-{b: c, ^b: d} * e;", "[a for x in {b: c, ^b: d}];", "[a for x in y if {b: c, ^b: d}];",
    "f(n = a, ^n = b);", "f(a, n = a, m = b, ^n = c);", "f(g(n = a, ^n = b));", "f(n = g(n = a, ^n = b));", "a.b()(n = a, ^n = a);",
    "not f(n = a, ^n = b);", "for x in f(n = a, ^n = b) {}", "for x in y { f(n = a, ^n = b); }",
]
BEHIND = [
    "f(n = a, ^b);", "f(a, n = b, ^c);", "f(n = a, m = b, ^c);", "f(n = a, ^n);", "f(n = a, ^n == b);", "g(f(n = a, ^b));",
    "f(n = a, ^1);", 'f(n = a, ^"t");', "f(n = a, ^none);", "f(n = a, ^-b);", "f(n = a, ^not b);", "f(n = a, ^[b]);",
    "f(n = a, ^[b for x in c]);", "f(n = a, ^{m: b});", "f(n = a, ^{});", "f(n = a, ^b.c);", "f(n = a, ^b or c);",
    "f(n = a, ^b + c);", "f(n = a, ^b * c);", "f(n = a, ^b in c);", "f(n = a, ^b and c);", "f(n = a, ^b(c)[d]);",
    "f(n = a, ^b, c);", "f(n = a, ^b, m = c, d);",
    # Parentheses make no node: the place of the tree lies within them.
    "f(n = a, (^b));", "f(n = a, ((^b)));", "f(n = a, ( ^b + c));", "f(n = a, (^b) + c);", "f(n = a, ((^b + c) * d) or e);",
    "f(n = a, (^-b).c);", "f(n = a, (^not b) == c);", "f(n = a, (^[b])[c]);", "f(n = a, ^-(b));", "f(n = a, ^not (b));",
    "f(n = a, ^[(b)]);",
    "def f(a = 1, ^b) {}", "def f(a, b = 1, ^c) {}", "def f(a = 1, b = 2, ^c, d) {}", "def f(a = g(b, n = c), ^d) {}",
]
FINE = [
    'load "t" a; b = 1; def c() {}', "def f() { a = 1; a = 2; }", "def f(a) { a = 1; f = 2; }", "def f() { if a { return; } }",
    "def f() { for x in y { return x; } }", "def f() { if a { b = 1; } else { b = 2; } }", "def f() { for x in y { z = x; } }",
    "a = 1; for a in b {}", "for a in b {} for a in c {} a = 1;", "a = 1; [a for a in a];", "def f(f) {}", "def f(a) {} def g(a) {}",
    "a = 1; def f(a) { a = 2; }", "a = 1; A = 2;", "a = 1; a; a == 2;", "f(n = a)(n = b);", "f(n = a, m = g(n = b));",
    "f(n = n, m = n);", "{a: {a: b}};", "{a: a, b: a};", "f(n = a).g(b);", "f(n = a)(b);", "f(g(n = a), b);", "f(a, n = (b));",
    "[f(n = a), b];", "def f(a, b = f(n = a)) {}", "def f(a = {n: 1}, b = {n: 1}) {}", "f({n: a}, b, m = {n: a});",
    "def f(a = 1) {} def g(b) {}", "a = b; b = a;", "f(n = {n: a});", "a.n.n;", 'load "a" a; load "a" b;',
]


def at_mark(marked):
    return marked.replace("^", ""), marked.index("^")


class Placing(unittest.TestCase):
    def check(self, number, samples):
        for marked in samples:
            with self.subTest(marked):
                text, position = at_mark(marked)
                self.assertEqual(where_of(text), [number, position])
                self.assertEqual(plain_of(text), -number)

    def test_place(self):
        self.check(5, PLACE)

    def test_twice(self):
        self.check(6, TWICE)

    def test_behind(self):
        self.check(7, BEHIND)

    def test_fine(self):
        for text in FINE:
            with self.subTest(text):
                self.assertEqual(where_of(text), [0, 0])

    def test_the_least_position_counts(self):
        self.check(5, [
            "^return; a = 1; a = 2; f(n = a, b);",
            "if a { ^b = {n: 1, n: 2}; }",
            'if a { ^load "t" b, b; }',
            "if a { ^def f(b, b) { f(n = a, b); } }",
            "a = 1; ^return f(n = a, b); a = 2;",
            "if a { ^b = 1; } b = 1; b = 2;",
        ])
        self.check(6, [
            "a = 1; ^a = 2; return;",
            "f(n = a, ^n = b, c);",
            "{n: 1, ^n: f(m = 1, 2)};",
            "x = {n: 1, ^n: 2}; x = 1; f(n = a, b); return;",
            "def f(a, ^a) {} def f() {}",
            "a = 1; ^a = f(n = 1, 2); a = 3;",
            "def f(a, b = {n: 1, ^n: 2}, c) {}",
            "def f(a, ^a) { def g() {} }",
        ])
        self.check(7, [
            "f(n = a, ^b, n = c); return;",
            "f(n = a, ^{m: 1, m: 2});",
            "f(n = a, ^g(m = 1, 2));",
            "def f(a = 1, ^b, a) { def g() {} }",
            "f(n = g(m = 1, ^2), n = 3);",
            "f(n = a, ^b); a = 1; a = 2;",
        ])

    def test_two_at_one_position(self):
        self.check(6, ["def f(a = 1, ^a) {}", "def f(a, b = 1, ^a) {}", "def f(a, b = 1, ^b, c) {}"])


if __name__ == "__main__":
    unittest.main()
