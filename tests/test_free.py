"""free: which uses mean a local name, which one at file level, and which are free; its refusals."""

import unittest

from buildtext.desk import free
from tests.support import EACH_KIND, SHORT_NAMES, check_refusals_of_reading, codes, free_of


class FreeTest(unittest.TestCase):
    def free(self, rows):
        """Each row: a text, and its free names in order, with blanks between."""
        for text, answer in rows:
            with self.subTest(text):
                self.assertEqual(free_of(text), answer.split())


class Told(FreeTest):
    def test_number_by_number(self):
        self.assertEqual(free(codes("a;")), [0, 1, 97])
        self.assertEqual(free(codes("bc(a, bc);")), [0, 2, 98, 99, 1, 97])
        self.assertEqual(free(codes("x = y;")), [0, 1, 121])
        self.assertEqual(free(codes("n" * 32 + ";")), [0, 32] + [110] * 32)

    def test_no_name_is_used(self):
        for text in ["", " ", "\t\r\n ", "# a", "# a\n# b;\n", "1;", '"a";', "[];", "{};", "true;", "a = 1;", "def f() {}", 'load "t" a;',
                     "if 1 {}", "for a in [] {}", "def f() { return; }", "{a: 1};", "1.a;"]:
            with self.subTest(text):
                self.assertEqual(free(codes(text)), [0])

    def test_once_in_the_order_of_the_first_use(self):
        self.free([
            ("b; a; b; c; a;", "b a c"),
            ("z + y * x - y;", "z y x"),
            ("f(c, n = b)[a].d;", "f c b a"),
            ("{n: b, m: a}; a; b;", "b a"),
            ("b or a and not c == -d;", "b a c d"),
            ("if c { b; } else { a; } d;", "c b a d"),
            ("for x in b { a; } c;", "b a c"),
            ("def f(x = b, y = a) { c; d; } e;", "b a c d e"),
            ("[b for x in a if c];", "b a c"),
            ("[a, [c, b], (d)];", "a c b d"),
            ("x = b; y = a;", "b a"),
            ("def f() { return b; } a;", "b a"),
            ("a < b; c <= d; e != g; h in i; j % k; l / m;", "a b c d e g h i j k l m"),
        ])

    def test_the_bytes_of_a_name(self):
        self.free([
            ("a; A; aa; a_; _; _1; Z9; in_; trues;", "a A aa a_ _ _1 Z9 in_ trues"),
            ("a = 1; A; aa; b;", "A aa b"),
            ("def f(a) { A; aa; a; }", "A aa"),
        ])


class FileLevel(FreeTest):
    def test_used_before_and_behind(self):
        self.free([
            ("a; a = 1;", ""), ("a = 1; a;", ""), ("a = a;", ""), ("b = a; a = b;", ""),
            ("f(); def f() {}", ""), ("def f() {} f();", ""), ("def f() { return f(); }", ""),
            ('a; load "t" a, b; b;', ""), ('load "t" a, b; a; b; c;', "c"), ('b; a; load "t" a;', "b"),
            ("def f() { return a; } a = 1;", ""), ("a = 1; def f() { return a; }", ""),
            ("def f() { return g(); } def g() { return f(); }", ""),
            ("if a { b; a; } b = 1;", "a"), ("[a for x in b]; a = 1; b = 2;", ""),
            ("for x in a { b; } a = 1; b = 1;", ""), ("def f(x = a) {} a = 1;", ""),
        ])

    def test_given_in_a_block_is_not_given_at_file_level(self):
        self.free([
            ("a; def f() { a = 1; }", "a"), ("def f() { a = 1; } a;", "a"), ("def f(a) {} a;", "a"), ("def f(a) {} def g() { a; }", "a"),
            ("for a in [] {} a;", "a"), ("a; for a in [] {}", "a"), ("[1 for a in []]; a;", "a"), ("a; [1 for a in []];", "a"),
        ])

    def test_the_text_of_a_load_uses_nothing(self):
        self.free([('load "a" b;', ""), ('load "a" b; a;', "a"), ('"a"; a;', "a")])


class Defs(FreeTest):
    def test_a_param(self):
        self.free([
            ("def f(a) { a; }", ""), ("def f(a) { return a; }", ""), ("def f(a, b) { b; a; c; }", "c"), ("def f(a = 1) { a; }", ""),
            ("def f(a) { if a { a; } else { a; } }", ""), ("def f(a) { if 1 { for x in a { a; } } }", ""),
            ("def f(a) { [a for x in a if a]; }", ""), ("def f(a) { b = a; a = b; }", ""), ("def f(f) { f; }", ""),
            ("a; def f(a) { a; }", "a"), ("def f(a) { a; } a;", "a"), ("def f(a) {} def g(b) { a; b; }", "a"),
            ("a = 1; def f(a) { a; } a;", ""),
        ])

    def test_a_giving(self):
        self.free([
            ("def f() { a = 1; a; }", ""), ("def f() { a; a = 1; }", ""), ("def f() { a = a; }", ""), ("def f() { return a; a = 1; }", ""),
            ("def f() { a = 1; a = 2; b = a; }", ""), ("def f() { a = b; }", "b"),
            ("a; def f() { a = 1; a; }", "a"), ("def f() { a = 1; } a;", "a"), ("def f() { a = 1; } def g() { a; }", "a"),
            ("def g() { a; } def f() { a = 1; }", "a"), ("def f(x = a) { a = 1; }", "a"),
        ])

    def test_a_giving_in_blocks_within(self):
        self.free([
            ("def f() { if 1 { a = 1; } a; }", ""), ("def f() { a; if 1 { a = 1; } }", ""), ("def f() { if a { a = 1; } }", ""),
            ("def f() { if 1 {} else { a = 1; } a; }", ""), ("def f() { if 1 { a; } else { a = 1; } }", ""),
            ("def f() { for x in [] { a = x; } return a; }", ""), ("def f() { for x in a { a = x; } }", ""),
            ("def f() { if 1 { for x in [] { if 2 { a = 1; } } } a; }", ""), ("def f() { if 1 { a = 1; } } a;", "a"),
            ("def f() { if 1 { if 2 { a; } if 3 { a = 1; } } }", ""),
        ])

    def test_a_for(self):
        self.free([
            ("def f() { for a in [] { a; } }", ""), ("def f() { for a in [] {} a; }", ""), ("def f() { a; for a in [] {} }", ""),
            ("def f() { for a in a {} }", ""), ("def f() { for a in g(a) { a; } }", "g"), ("def f() { for a in [a for x in a if a] {} }", ""),
            ("def f() { for a in [] {} } a;", "a"), ("a; def f() { for a in [] { a; } }", "a"), ("def f() { for a in [] {} } def g() { a; }", "a"),
            ("def f(x = a) { for a in [] {} }", "a"),
        ])

    def test_a_for_in_blocks_within(self):
        self.free([
            ("def f() { if 1 { for a in [] {} } a; }", ""), ("def f() { a; if 1 { for a in [] {} } }", ""), ("def f() { if a { for a in [] {} } }", ""),
            ("def f() { if 1 {} else { for a in a {} } a; }", ""), ("def f() { for b in a { for a in b {} } }", ""),
            ("def f() { for b in [] { for a in b {} } a; b; }", ""), ("def f() { for a in [] { for a in a { a; } } a; }", ""),
            ("def f() { if 1 { for a in [] {} } } a;", "a"),
        ])

    def test_a_list_in_a_def_gives_no_local_of_the_def(self):
        self.free([
            ("def f() { [a for a in []]; a; }", "a"), ("def f() { a; [a for a in []]; }", "a"), ("def f() { return [a for a in a]; }", "a"),
            ("def f() { b = [a for a in []]; return a; }", "a"), ("def f(a) { [a for a in a]; a; }", ""),
        ])

    def test_the_name_of_a_def_is_not_local(self):
        self.free([("def f() { f; }", ""), ("def f() { g; } def g() { f; }", ""), ("def f(f) { f; } f;", ""), ("def f() { f = 1; } f;", "")])

    def test_behind_the_equals_sign_of_a_param(self):
        self.free([
            ("def f(a = a) {}", "a"), ("def f(a, b = a) {}", "a"), ("def f(a = b, b = 1) {}", "b"), ("def f(a, b = a) { a; b; }", "a"),
            ("def f(a = f) {}", ""), ("def f(a = f(f)) {}", ""), ("def f(f = f) { f; }", ""),
            ("def f(a = b) { b = 1; }", "b"), ("def f(a = b) { for b in [] {} }", "b"), ("def f(a = b) { b = 1; b; }", "b"),
            ("def f(a, b = [a for a in []]) {}", ""), ("def f(a, b = [a for a in a]) {}", "a"), ("def f(a, b = [c for c in a if a]) {}", "a"),
            ("def f(a, b = a) {} a = 1;", ""), ("a = 1; def f(a = a) { a; }", ""), ("def f(a, b = {a: 1}.a) {}", ""),
            ("def f(a, b = g(a = 1)) {}", "g"), ("def f(a = b, c = d) {}", "b d"),
        ])

    def test_each_def_by_itself(self):
        self.free([
            ("def f(a) { b; } def g(b) { a; }", "b a"), ("def f(a) { a; } def g(b) { b; } def h() { a; b; }", "a b"),
            ("def f() { a = 1; } def g() { a = 2; return a; }", ""), ("def f() { a = 1; } def g() { for b in a {} }", "a"),
        ])


class Fors(FreeTest):
    def test_outside_of_all_defs(self):
        self.free([
            ("for a in [] { a; }", ""), ("for a in [] { f(a); }", "f"), ("for a in [] {} a;", "a"), ("a; for a in [] { a; }", "a"),
            ("for a in a {}", "a"), ("for a in a { a; }", "a"), ("for a in g(a) { b; a; }", "g a b"), ("for a in [] {} for b in a {}", "a"),
            ("for a in [] {} for a in [] { a; } a;", "a"), ("for a in [a for x in a] {}", "a"), ("for a in [a for a in []] {}", ""),
        ])

    def test_blocks_within(self):
        self.free([
            ("for a in [] { if a { a; } else { a; } }", ""), ("for a in [] { for b in a { a; b; } }", ""), ("for a in [] { for b in [] {} b; a; }", "b"),
            ("for a in b { for b in a { a; b; } }", "b"), ("for a in [] { for a in a { a; } a; }", ""), ("for a in a { for a in a { a; } a; } a;", "a"),
            ("for a in [] { for b in b {} }", "b"), ("for a in [] { for b in [] { for c in b { a; b; c; } c; } }", "c"),
            ("for a in [] { if 1 { if 2 { a; } } }", ""), ("for a in [] { [a for x in a if a]; }", ""),
        ])

    def test_in_an_if(self):
        self.free([
            ("if 1 { for a in [] { a; } }", ""), ("if a { for a in [] { a; } }", "a"), ("if 1 { for a in [] {} a; }", "a"),
            ("if 1 { a; for a in [] {} }", "a"), ("if 1 { for a in [] {} } else { a; }", "a"), ("if 1 { a; } else { for a in [] { a; } }", "a"),
            ("if 1 { for a in a {} }", "a"), ("if 1 { if 2 { for a in [] { a; } } } a;", "a"), ("if 1 { for a in [] { if a {} } }", ""),
        ])

    def test_beside_what_is_given_at_file_level(self):
        self.free([
            ("a = 1; for a in [] { a; } a;", ""), ("for a in a { a; } a = 1;", ""), ("for a in [] { b; } b = 1; a;", "a"),
            ("for f in f { f; } def f() {}", ""), ('for a in b { a; b; } load "t" b;', ""),
        ])

    def test_not_local_in_a_def(self):
        self.free([
            ("for a in [] {} def f() { a; }", "a"), ("def f() { a; } for a in [] { a; }", "a"), ("for a in [] { a; } def f(b = a) {}", "a"),
        ])


class Lists(FreeTest):
    def test_the_parts(self):
        self.free([
            ("[a for a in []];", ""), ("[1 for a in [] if a];", ""), ("[a for a in [] if a];", ""), ("[1 for a in a];", "a"), ("[a for a in a if a];", "a"),
            ("[b for a in c if d];", "b c d"), ("[a for b in [] if a];", "a"), ("[f(a, b) for a in g(a) if h(a)];", "f b g a h"),
            ("[a for a in []]; a;", "a"), ("a; [a for a in []];", "a"), ("x = [x for x in x];", ""), ("[a + b for a in b];", "b"),
            ("[a, 1]; [b for a in []];", "a b"), ("[[a for a in []], a];", "a"),
        ])

    def test_lists_in_the_first_part(self):
        self.free([
            ("[[a for a in a] for a in []];", ""), ("[[a for b in a] for a in []];", ""), ("[[b for b in a] for a in b];", "b"), ("[[b for b in b] for a in []];", "b"),
            ("[[a + b for b in a if a] for a in []];", ""), ("[[a for a in []] for b in a];", "a"), ("[[1 for b in [] if a] for a in []];", ""),
            ("[[b for b in []] + b for a in []];", "b"), ("[[[a + b + c for c in b] for b in a] for a in c];", "c"),
        ])

    def test_lists_behind_in(self):
        self.free([
            ("[1 for a in [a for a in []]];", ""), ("[1 for a in [a for a in a]];", "a"), ("[1 for a in [a for b in []]];", "a"), ("[b for a in [b for b in []]];", "b"),
            ("[a for a in [1 for b in a if b]];", "a"), ("[a for a in [b for b in [] if a]];", "a"), ("[a for a in [a for a in [a for a in a]]];", "a"),
        ])

    def test_lists_behind_if(self):
        self.free([
            ("[1 for a in [] if [a for a in a]];", ""), ("[1 for a in [] if [b for b in a if a]];", ""), ("[1 for a in [] if [b for b in b]];", "b"),
            ("[b for a in [] if [b for b in []]];", "b"), ("[1 for a in [] if [1 for b in []] + b];", "b"), ("[1 for a in [] if [a for b in []]];", ""),
        ])

    def test_in_brackets_of_other_kinds(self):
        self.free([
            ("[{n: a} for a in []];", ""), ("[f(n = a)[a].a for a in []];", "f"), ("[-a for a in [] if not a or a and a < a];", ""),
            ("{n: [a for a in []], m: a};", "a"), ("f([a for a in []], n = a);", "f a"), ("([a for a in [1]])[a];", "a"),
        ])

    def test_beside_what_is_given_at_file_level(self):
        self.free([
            ("a = [a for a in a];", ""), ("a = [b for a in b];", "b"), ("def f(x) { return x; } y = [f(f) for f in f];", ""),
            ("[a for b in []]; a = 1;", ""), ("[b for a in []]; a = 1; b;", "b"),
        ])


class OtherNames(FreeTest):
    def test_leaves_of_kind_7_neither_give_nor_use(self):
        self.free([
            ("{a: 1};", ""), ("{a: a};", "a"), ("{a: 1}; a;", "a"), ("f(a = 1);", "f"), ("f(a = a);", "f a"), ("f(a = 1); a;", "f a"),
            ("1.a;", ""), ("b.a;", "b"), ("a.a;", "a"), ("b.a; a;", "b a"), ("b.c.d.e();", "b"),
            ("def f() { g(a = 1); a; }", "g a"), ("def f() { {a: 1}; a; }", "a"), ("def f() { b.a; return a; }", "b a"),
            ("def f(a) { return g(a = 1, b = a).a; }", "g"), ("[{a: 1}.a for b in [] if a];", "a"),
            ("f(f = 1); def g() {}", "f"), ("{g: 1}; def g() {}", ""),
        ])

    def test_local_in_one_part_and_free_in_another(self):
        self.free([
            ("def f(a) { a; } def g() { a; }", "a"), ("[a for a in a]; def f(a) { a; } for a in a { a; }", "a"),
            ("for a in [] { a; b; } for b in [] { b; a; }", "b a"), ("def f(a) { b; } def g(b) { a; } a; b;", "b a"),
            ("def f() { for y in g(y) { z = y; } return z; } h(y, z);", "g h y z"),
            ("def f(x = y) { y = x; return [x for x in y if z]; } x;", "y z x"),
        ])

    def test_statements_of_all_kinds(self):
        self.free([
            (EACH_KIND, "c d"),
            ("def f() { return a; }", "a"), ("def f() { if a { return b; } }", "a b"), ("if a { b; } else { c; }", "a b c"),
        ])


class Refused(unittest.TestCase):
    def test_as_reading_refuses(self):
        check_refusals_of_reading(self, free)

    def test_wrong_texts(self):
        for number, text in [
            (2, "a; ?"), (2, "n" * 33 + ";"), (3, "a"), (3, "a b;"), (3, "for 1 in a {}"), (3, "[a for a];"), (3, "[a, b for a in c];"),
            (3, "[a for a.b in c];"), (3, "f(a.b = 1);"), (4, "[" * 12 + "(a)" + "]" * 12 + ";"), (5, "for a in b { c = a; }"),
            (5, "if a { def f() {} }"), (6, "def f(a, a) {}"), (6, "f(a = 1, a = 2);"), (6, "{a: 1, a: 2};"), (7, "def f(a = 1, b) {}"),
        ]:
            with self.subTest(text):
                self.assertEqual(free(codes(text)), [-number])


class Long(FreeTest):
    def test_as_many_names_as_there_is_room_for(self):
        short = SHORT_NAMES
        text = "".join(name + ";" for name in short[:1380])
        self.assertGreater(len(text), 4000)
        self.assertLessEqual(len(text), 4096)
        self.assertEqual(free_of(text), short[:1380])
        self.assertEqual(free_of("+".join(short[:1380]) + ";"), short[:1380])
        params = "def f(" + ",".join(short[:660]) + "){" + "".join(name + ";" for name in reversed(short[20:680])) + "}"
        self.assertEqual(free_of(params), [name for name in reversed(short[660:680]) if name != "f"])
        givings = "def f0(){" + "".join(name + "=1;" for name in short[:500]) + "".join(name + ";" for name in short[490:940]) + "}"
        self.assertLessEqual(len(givings), 4096)
        self.assertEqual(free_of(givings), short[500:940])
        level = 'load "t" ' + ",".join(short[:660]) + ";" + "".join(name + ";" for name in short[20:680])
        self.assertEqual(free_of(level), short[660:680])

    def test_long_but_not_deep(self):
        self.free([
            ("a;" * 2048, "a"), ("a" + "+b" * 2046 + ";", "a b"), ("f(a" + ",b" * 2045 + ");", "f a b"), ("a" + "()" * 2046 + ";", "a"),
            ("a" + ".b" * 2046 + ";", "a"), ("for a in b{" + "a;" * 2042 + "}", "b"), ("def f(a){" + "a;" * 2042 + "b;}", "b"),
            ("for a in a{}" * 341, "a"), ("[a for a in b];" * 273, "b"), ("if a{}" * 682, "a"), (" " * 4094 + "a;", "a"), ("#" * 4096, ""),
            ("def f(){" + "for a in a{}" * 340 + "}", ""), ("def f(){" + "[a for a in a];" * 272 + "}", "a"),
        ])

    def test_many_lists_in_a_def_with_many_names(self):
        params = ["p%03d" % number for number in range(400)]
        text = "def f(" + ",".join(params) + "){" + "[p000 for a in p399 if b];" * 78 + "}"
        self.assertLessEqual(len(text), 4096)
        self.free([(text, "b")])

    def test_as_deep_as_can_be(self):
        self.free([
            ("[" * 12 + "a" + " for a in a]" * 12 + ";", "a"),
            ("[" * 12 + "a" + " for b in a]" * 12 + ";", "a"),
            ("[" * 12 + "a" + " for a in none if a]" * 11 + " for b in c];", "c"),
            ("for a in b {" * 12 + "a;" + "}" * 12 + "a;", "b a"),
            ("for a in a {" * 12 + "a;" + "}" * 12, "a"),
            ("if a {" * 11 + "for a in a { a; }" + "}" * 11, "a"),
            ("def f() {" + "for a in a {" * 11 + "b = a;" + "}" * 11 + "b; }", ""),
            ("f(" * 12 + "a" + ")" * 12 + ";", "f a"),
        ])


if __name__ == "__main__":
    unittest.main()
