"""names: what is given at file level, by what, and where; what is given elsewhere is not told; its refusals."""

import unittest

from buildtext.desk import names
from tests.support import EACH_KIND, PAIRS, check_refusals_of_reading, codes, names_of


class Given(unittest.TestCase):
    def test_number_by_number(self):
        self.assertEqual(names(codes("ab = 1;")), [0, 3, 0, 2, 97, 98])
        self.assertEqual(names(codes(" def f() {}")), [0, 2, 5, 1, 102])
        self.assertEqual(names(codes('load "t" a;')), [0, 1, 9, 1, 97])
        self.assertEqual(names(codes('load "t" a, bc; x = a;')), [0, 1, 9, 1, 97, 1, 12, 2, 98, 99, 3, 16, 1, 120])

    def test_nothing_is_given(self):
        for text in ["", " ", "\t\r\n ", "# a = 1;", "# a\n# b = 1;\n", "1;", '"a = 1;";', "[];", "{};", "a;", "f(a);", "if 1 {}",
                     "a == b;", "a.b;"]:
            with self.subTest(text):
                self.assertEqual(names(codes(text)), [0])

    def test_load(self):
        self.assertEqual(names_of('load "t" a;'), [(1, 9, "a")])
        self.assertEqual(names_of('load "t" a, b, c;'), [(1, 9, "a"), (1, 12, "b"), (1, 15, "c")])
        self.assertEqual(names_of('load"a"b;'), [(1, 7, "b")])
        self.assertEqual(names_of('load "" c,b,a;'), [(1, 8, "c"), (1, 10, "b"), (1, 12, "a")])
        self.assertEqual(names_of('load "a" a; load "a" b;'), [(1, 9, "a"), (1, 21, "b")])

    def test_def(self):
        self.assertEqual(names_of("def f() {}"), [(2, 4, "f")])
        self.assertEqual(names_of("def f(f) { f = f; }"), [(2, 4, "f")])
        self.assertEqual(names_of("def g() {} def f() {}"), [(2, 4, "g"), (2, 15, "f")])

    def test_giving(self):
        self.assertEqual(names_of("a = b;"), [(3, 0, "a")])
        self.assertEqual(names_of("b = a; a = b;"), [(3, 0, "b"), (3, 7, "a")])
        self.assertEqual(names_of("a = a == a;"), [(3, 0, "a")])

    def test_in_whatever_order(self):
        self.assertEqual(
            names_of('x = 1; load "t" b, a; def f() {} y = 2; def e() {} load "s" z; 1; c = f;'),
            [(3, 0, "x"), (1, 16, "b"), (1, 19, "a"), (2, 26, "f"), (3, 33, "y"), (2, 44, "e"), (1, 60, "z"), (3, 66, "c")])

    def test_behind_statements_of_other_kinds(self):
        self.assertEqual(names_of("if a {} else {} b = 1; for c in d {} e = 2; f; g = 3;"), [(3, 16, "b"), (3, 37, "e"), (3, 47, "g")])

    def test_positions_behind_blanks_and_remarks(self):
        self.assertEqual(names_of("\n\t a = 1;"), [(3, 3, "a")])
        self.assertEqual(names_of("# a = 1;\na = 1;"), [(3, 9, "a")])
        self.assertEqual(names_of("def # f\n\r f () {}"), [(2, 10, "f")])
        self.assertEqual(names_of('load # a\n "#" # b\n a # c\n , # d\n b ;'), [(1, 19, "a"), (1, 33, "b")])
        self.assertEqual(names_of(" " * 4092 + "a=1;"), [(3, 4092, "a")])
        self.assertEqual(names_of("def f(){}".rjust(4096)), [(2, 4091, "f")])

    def test_lengths(self):
        for count in (1, 2, 31, 32):
            with self.subTest(count):
                name = "n" * count
                self.assertEqual(names_of(name + " = 1;"), [(3, 0, name)])
                self.assertEqual(names_of("def " + name + "() {}"), [(2, 4, name)])
                self.assertEqual(names_of('load "t" ' + name + ", x;"), [(1, 9, name), (1, 11 + count, "x")])
        self.assertEqual(names(codes("n" * 33 + " = 1;")), [-2])

    def test_the_bytes_of_a_name(self):
        self.assertEqual(names_of("_ = 1; Zz_09 = 2; load_ = 3; In = 4;"), [(3, 0, "_"), (3, 7, "Zz_09"), (3, 18, "load_"), (3, 29, "In")])

    def test_one_byte_more_or_other_is_another_name(self):
        self.assertEqual(names_of("a = 1; A = 2; aa = 3; a_ = 4;"), [(3, 0, "a"), (3, 7, "A"), (3, 14, "aa"), (3, 22, "a_")])


class NotAtFileLevel(unittest.TestCase):
    def test_in_blocks(self):
        for text in ["for a in b { c; }", "if a { b; }", "for a in b { for c in d {} }", "if a { for b in c {} } else { for d in e {} }"]:
            with self.subTest(text):
                self.assertEqual(names_of(text), [])

    def test_in_a_def(self):
        for inner in ["a = 1;", "for a in b {}", "if c { a = 1; } else { a = 2; }", "for b in c { a = 1; }", "a = 1; a = 2;", "a; return a;"]:
            with self.subTest(inner):
                self.assertEqual(names_of("def f() { " + inner + " }"), [(2, 4, "f")])
        self.assertEqual(names_of("def f() { a = 1; } a = 2;"), [(2, 4, "f"), (3, 19, "a")])
        self.assertEqual(names_of("a = 2; def f() { a = 1; f = 2; }"), [(3, 0, "a"), (2, 11, "f")])

    def test_params(self):
        self.assertEqual(names_of("def f(a, b = c, d = [e for e in g]) {}"), [(2, 4, "f")])

    def test_in_a_list(self):
        self.assertEqual(names_of("[a for b in c if d];"), [])
        self.assertEqual(names_of("x = [[a for b in c] for d in e];"), [(3, 0, "x")])

    def test_names_that_neither_give_nor_use(self):
        self.assertEqual(names_of("f(a = 1); {b: 2}; c.d; {e: 1}.e;"), [])
        self.assertEqual(names_of("x = f(a = 1, b = {c: 2}.d);"), [(3, 0, "x")])

    def test_each_kind_of_tree(self):
        self.assertEqual([(giver, name) for giver, position, name in names_of(EACH_KIND)], [(1, "a"), (1, "b"), (2, "f"), (3, "x")])
        for giver, position, name in names_of(EACH_KIND):
            self.assertEqual(EACH_KIND[position:position + len(name)], name)


class Refused(unittest.TestCase):
    def test_as_reading_refuses(self):
        check_refusals_of_reading(self, names)

    def test_names_given_twice(self):
        for text in ['load "t" a, a;', 'load "t" a; a = 1;', "def a() {} a = 1;", "a = 1; def a() {}"]:
            with self.subTest(text):
                self.assertEqual(names(codes(text)), [-6])

    def test_given_where_it_may_not_be(self):
        for text in ["if x { a = 1; }", "for x in y { a = 1; }", "if x { def f() {} }", 'def f() { load "t" a; }']:
            with self.subTest(text):
                self.assertEqual(names(codes(text)), [-5])

    def test_no_names_of_what_can_not_be_read(self):
        for text in ["if = 1;", "1 = 2;", "a.b = 1;", "(a) = 1;", "a = 1, b = 2;", "load t;", 'load "t";', 'load "t" a b;', "def (a) {}"]:
            with self.subTest(text):
                self.assertEqual(names(codes(text)), [-3])


class Long(unittest.TestCase):
    def test_as_many_names_as_there_is_room_for(self):
        load = 'load "t" ' + ",".join(PAIRS[:1360]) + ";"
        self.assertLess(len(load), 4096)
        self.assertEqual(names_of(load), [(1, 9 + 3 * number, name) for number, name in enumerate(PAIRS[:1360])])
        givings = "".join(name + "=1;" for name in PAIRS[:819])
        self.assertEqual(names_of(givings), [(3, 5 * number, name) for number, name in enumerate(PAIRS[:819])])
        defs = "".join("def " + name + "(){}" for name in PAIRS[:409])
        self.assertEqual(names_of(defs), [(2, 4 + 10 * number, name) for number, name in enumerate(PAIRS[:409])])

    def test_long_names(self):
        long_names = [("%03d" % number).rjust(32, "n") for number in range(124)]
        text = 'load "t" ' + ",".join(long_names[:123]) + ";"
        self.assertEqual(names_of(text), [(1, 9 + 33 * number, name) for number, name in enumerate(long_names[:123])])


if __name__ == "__main__":
    unittest.main()
