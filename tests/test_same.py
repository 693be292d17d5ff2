"""same: trees that are the same but for their places, trees that are not, and the refusals of either text."""

import unittest

from buildtext.desk import plain, same
from tests.support import EACH_KIND, REFUSED, codes, same_of
from tests.test_plain import AS_IT_STANDS, KEPT, LEFT_OUT, LINES

# In each row all texts have one tree, but for its places.
SAME = [
    ("", " ", "\n\t\r ", "# a", "# a\n# b\n"),
    ("a;", " a ; ", "a # b\n;", "(a);", "((((a))));", "#;\na;", "\ta\r\n;"),
    ("a + b;", "a+b;", "(a)+(b);", "(a + b);", "a # + c\n + b;"),
    ("a + b * c;", "a + (b * c);", "(a) + ((b) * (c));"),
    ("a or b and not c == d;", "a or (b and (not (c == d)));"),
    ("-a.b;", "-(a.b);", "(-(a).b);", "- a . b;"),
    ("f(a, n = b)[c].d;", "f ( (a) , n = (b) ) [ (c) ] . d ;", "((f)(a,n=b)[c].d);"),
    ("[a for x in b if c];", "[(a)for x in(b)if(c)];"),
    ("{n: a, m: b};", "{n:(a),m:(b)};", "{ # n\nn : a , m : b }\n;"),
    ("if a { b; } else {}", "if(a){(b);}else{#\n}"),
    ("for x in y { x; }", "for x in(y){x;}"),
    ("def f(a, b = c) { return a; }", "def f(a,b=(c)){return(a);}"),
    ('load "t" a, b;', 'load"t"a,b;', 'load "\\x74" a, b;'),
    ('"A";', '"\\x41";', '("A");'),
    ('"\\"\\\\\\n\\t";', '"\\x22\\x5c\\x0a\\x09";', '"\\x22\\\\\\x0a\\t";'),
    ('"\\\\n";', '"\\x5cn";', '"\\x5c\\x6e";'),
    ('"";', '("");'),
    ("0;", "(0);"),
]

# In each row no two texts have one tree.
OTHERS = [
    # Kinds of leaves, with the same bytes or none.
    ("a;", '"a";', "b;", "A;"), ("1;", '"1";', "11;", "2;", "-1;"), ("true;", "false;", "none;", '"";', '"true";', "True;"),
    # Kinds of nodes, with the same parts.
    ("a or b;", "a and b;", "a == b;", "a != b;", "a < b;", "a <= b;", "a in b;", "[a, b];"),
    ("a + b;", "a - b;", "a * b;", "a / b;", "a % b;"),
    ("not a;", "-a;", "a;", "[a];", "a();", "-(-a);", "not (not a);"),
    ("a + b - c;", "a - b + c;", "a - b - c;", "a + b + c;"), ("a * b / c;", "a / b * c;", "a * b % c;", "a % b * c;"),
    ("[];", "{};", "a;", ""), ("a();", "a[b];", "a.b;", "a(b);", "a;"), ("a = b;", "a == b;", "f(a = b);", "f(a == b);"),
    ("def f() { return; }", "def f() {}", "def f() { return none; }", "def f() { none; }", "def f() { return f; }"),
    ("def f() { if a {} }", "def f() { for a in b {} }", "def f() { a = b; }", "def f() { a; }", "def f() { a; b; }"),
    ('load "a" b;', '"a"; b;', 'load "b" a;', 'load "a" b, c;', 'load "a" c, b;', 'load "a" b; load "a" c;', 'load "" b;'),
    # One byte.
    ("ab;", "ac;", "bb;", "a;", "abc;", "aB;"), ("12;", "13;", "22;", "1;", "120;"),
    ('"ab";', '"ac";', '"bb";', '"a";', '"abc";', '"\\x00ab";', '"ab\\x00";', '"a\\x00b";', '"ab ";'),
    ('"\\n";', '"n";', '"\\\\n";', '"\\t";', '"\\x0d";', '" ";', '"#";', '"\\"";', '"\\\\";', '"\\xff";', '"\\x7f";'),
    ("a.n;", "a.m;", "b.n;", "a.n.n;"), ("f(n = a);", "f(m = a);", "f(n = b);", "f(a);", "f(n, a);"),
    ("{n: a};", "{m: a};", "{n: b};", "{};", "{n: n};"), ("def f(a) {}", "def f(b) {}", "def g(a) {}", "def a(f) {}"),
    ("for x in y {}", "for y in x {}", "for x in x {}", "for y in y {}"), ("x = y;", "y = x;", "x = x;"),
    ("[a for x in b];", "[a for b in x];", "[b for x in a];", "[x for a in b];", "[a for x in b if c];", "[a for x in b if a];"),
    # The number of parts.
    ("", "a;", "a; a;", "a; a; a;"), ("a or a;", "a or a or a;", "a;"), ("a + a;", "a + a + a;"), ("a * a;", "a * a * a;"),
    ("[a];", "[a, a];", "[];"), ("f();", "f(a);", "f(a, a);", "f()();"), ("def f() {}", "def f(a) {}", "def f(a, b) {}"),
    ("def f(a) {}", "def f(a = a) {}", "def f(a = 1) {}", "def f(a = none) {}"),
    ("if a {}", "if a {} else {}", "if a { a; }", "if a { a; } else {}", "if a {} else { a; }", "if a { a; } else { a; }"),
    # The order of parts.
    ("a; b;", "b; a;"), ("x = 1; y = 2;", "y = 2; x = 1;"), ("a or b;", "b or a;"), ("a and b;", "b and a;"), ("a == b;", "b == a;"),
    ("a + b + c;", "a + c + b;", "b + a + c;", "c + b + a;"), ("a * b;", "b * a;"), ("[a, b];", "[b, a];"), ("f(a, b);", "f(b, a);"),
    ("f(n = a, m = b);", "f(m = b, n = a);", "f(n = b, m = a);"), ("{n: a, m: b};", "{m: b, n: a};", "{n: b, m: a};"),
    ("def f(a, b) {}", "def f(b, a) {}"), ("a.b.c;", "a.c.b;"), ("a(b)[c];", "a[c](b);", "a(c)[b];"),
    ("if a { b; } else { c; }", "if a { c; } else { b; }"),
    # Where a part stands: the same leaves in one order.
    ("a + b + c;", "(a + b) + c;", "a + (b + c);"), ("a or b or c;", "(a or b) or c;", "a or (b or c);"),
    ("a * b * c;", "(a * b) * c;", "a * (b * c);"), ("a and b and c;", "(a and b) and c;", "a and (b and c);"),
    ("[a, b, c];", "[[a, b], c];", "[a, [b, c]];", "[[a], b, c];", "[[a, b, c]];", "[[a], [b], [c]];"),
    ("f(a)(b);", "f(a, b);", "f(a(b));", "(f(a))(b);"), ("a.b.c;", "(a.b).c;"), ("-a.b;", "(-a).b;"), ("not a == b;", "(not a) == b;"),
    ("-a * b;", "-(a * b);"), ("-a + b;", "-(a + b);"), ("f(n = a)(m = b);", "f(n = a, m = b);", "f(n = a(m = b));"),
    ("if a { b; } c;", "if a { b; c; }", "if a { b; } else { c; }"), ("if a { if b {} else {} }", "if a { if b {} } else {}"),
    ("{n: {m: a}};", "{n: {}, m: a};"), ("[[], []];", "[[[]]];"), ("[{}, []];", "[[], {}];"),
]


class Same(unittest.TestCase):
    def test_the_same_but_for_places(self):
        for texts in SAME:
            for a in texts:
                for b in texts:
                    with self.subTest(a=a, b=b):
                        self.assertEqual(same_of(a, b), 1)

    def test_not_the_same(self):
        for texts in OTHERS:
            for a in texts:
                for b in texts:
                    with self.subTest(a=a, b=b):
                        self.assertEqual(same_of(a, b), 1 if a == b else 0)

    def test_no_text_of_one_row_is_the_same_as_one_of_another(self):
        for number, texts in enumerate(SAME):
            for other, others in enumerate(SAME):
                with self.subTest(a=texts[0], b=others[-1]):
                    self.assertEqual(same_of(texts[0], others[-1]), 1 if number == other else 0)

    def test_the_last_byte_of_long_texts(self):
        texts = ["a;" * 2046 + "b;", "a;" * 2047, "a" + "+a" * 2046 + ";", "a" + "+a" * 2045 + "-a;", "a;" * 2045 + "b;a;"]
        for a in texts:
            for b in texts:
                self.assertEqual(same_of(a, b), 1 if a == b else 0)

    def test_one_list_as_both(self):
        for text in ["", "a;", EACH_KIND, "a;" * 2048]:
            with self.subTest(text[:20]):
                handed = codes(text)
                self.assertEqual(same(handed, handed), [1])
                self.assertEqual(handed, codes(text))
        for number, text in REFUSED.items():
            handed = codes(text)
            self.assertEqual(same(handed, handed), [-number])

    def test_a_text_and_its_plain_form(self):
        texts = AS_IT_STANDS + KEPT + [text for text, form in LEFT_OUT + LINES] + [EACH_KIND]
        for text in texts:
            with self.subTest(text):
                form = plain(codes(text))[1:]
                self.assertEqual(same(codes(text), form), [1])
                self.assertEqual(same(form, codes(text)), [1])

    def test_a_plain_form_that_is_long(self):
        text = codes("a" + "+a" * 1500 + ";")
        form = plain(text)[1:]
        self.assertGreater(len(form), 4096)
        self.assertEqual(same(text, form), [-21])
        self.assertEqual(same(form, text), [-1])


class Refusals(unittest.TestCase):
    def test_of_the_first(self):
        for number, text in REFUSED.items():
            for other in ["", "a;", EACH_KIND]:
                with self.subTest(number=number, other=other):
                    self.assertEqual(same(codes(text), codes(other)), [-number])

    def test_of_the_second(self):
        for number, text in REFUSED.items():
            for other in ["", "a;", EACH_KIND]:
                with self.subTest(number=number, other=other):
                    self.assertEqual(same(codes(other), codes(text)), [-20 - number])

    def test_of_neither_the_first_counts(self):
        for number, a in REFUSED.items():
            for other, b in REFUSED.items():
                with self.subTest(number=number, other=other):
                    self.assertEqual(same(codes(a), codes(b)), [-number])

    def test_long_at_its_edge(self):
        just, more = codes("a;".ljust(4096)), codes("a;".ljust(4097))
        self.assertEqual(same(just, just), [1])
        self.assertEqual(same(just, more), [-21])
        self.assertEqual(same(more, just), [-1])
        self.assertEqual(same(more, more), [-1])
        self.assertEqual(same(just, codes("!" * 10000)), [-21])

    def test_deep_at_its_edge(self):
        just, more = "(" * 12 + "a" + ")" * 12 + ";", "(" * 13 + "a" + ")" * 13 + ";"
        self.assertEqual(same_of("a;", just), 1)
        self.assertEqual(same_of("a;", more), -24)
        self.assertEqual(same_of(more, just), -4)

    def test_texts_that_differ_are_still_refused(self):
        self.assertEqual(same_of("a;", "b"), -23)
        self.assertEqual(same_of("", "return;"), -25)
        self.assertEqual(same_of("x = 1;", "x = 1; x = 1;"), -26)
        self.assertEqual(same_of("f(n = a);", "f(n = a, b);"), -27)


if __name__ == "__main__":
    unittest.main()
