"""plain: the plain form, its lines, its quoted texts and its parentheses."""

import unittest

from buildtext.desk import plain
from tests.support import codes, plain_of

# Each text stands for itself in its plain form, but for the line's end.
AS_IT_STANDS = [
    "0;", "1000000000000000000;", "a_B9;", "true;", "false;", "none;", '"t";', '"";',
    "a or b;", "a or b or c;", "a and b;", "not a;", "a == b;", "a != b;", "a < b;", "a <= b;", "a in b;",
    "a + b - c;", "a * b / c % d;", "-a;", "f(a, n = b);", "f();", "f(n = a);", "a[b];", "a.n;", "[a, b];", "[a];",
    "[a for x in b if c];", "[a for x in b];", "{n: a, m: b};", "{n: a};", "[];", "{};", "x = a;",
    'load "t" a;', 'load "t" a, b, c;', 'load "" a;',
]

# Parentheses that stay, at each rule of the grammar.
KEPT = [
    "(a or b) or c;", "a or (b or c);", "(a or b) and c;", "a and (b or c);", "(a and b) and c;", "a and (b and c);",
    "not (a or b);", "not (a and b);", "not (not a);",
    "(a or b) == c;", "a == (b or c);", "(a and b) != c;", "(not a) < b;", "a < (not b);", "(a == b) == c;", "a == (b == c);",
    "(a in b) in c;", "a <= (b <= c);", "(a == b) in c;",
    "(a or b) + c;", "(a and b) + c;", "(not a) + b;", "(a < b) + c;", "a + (b < c);", "(a + b) + c;", "a + (b + c);",
    "a - (b - c);", "a + (b - c) + d;", "a - (not b);",
    "(a or b) * c;", "(a and b) * c;", "(not a) * b;", "(a == b) * c;", "(a + b) * c;", "a * (b + c);", "(a * b) * c;",
    "a * (b * c);", "a / (b / c);", "a % (b % c);", "a % (b * c) / d;",
    "-(a or b);", "-(a and b);", "-(not a);", "-(a == b);", "-(a + b);", "-(a * b);", "-(-a);",
    "(a or b).c;", "(a and b)(c);", "(not a)[b];", "(a == b).c;", "(a + b).c;", "(a * b)(c);", "(-a).b;", "(-a)(b)[c];",
    "(a.b).c;", "(a(b))(c);", "(a[b])[c];", "(f()).a;",
]

LEFT_OUT = [
    ("(a);", "a;"), ("((((a))));", "a;"), ("(1) + (\"t\") * (none);", '1 + "t" * none;'),
    ("(a or b);", "a or b;"), ("(a and b) or (c);", "a and b or c;"), ("a or (b and c);", "a or b and c;"),
    ("a or (not b);", "a or not b;"), ("(not a) or b;", "not a or b;"), ("(a == b) or (c < d);", "a == b or c < d;"),
    ("(a + b) or c;", "a + b or c;"), ("(a * b) or (-c) or (d.e);", "a * b or -c or d.e;"),
    ("(not a) and (not b);", "not a and not b;"), ("(a == b) and (c in d);", "a == b and c in d;"),
    ("(a + b) and (c * d) and (-e) and (f());", "a + b and c * d and -e and f();"),
    ("not (a == b);", "not a == b;"), ("not (a + b);", "not a + b;"), ("not (a * b);", "not a * b;"),
    ("not (-a);", "not -a;"), ("not (a.b);", "not a.b;"), ("not ([a]);", "not [a];"),
    ("(a + b) == (c - d);", "a + b == c - d;"), ("(a * b) <= (c / d);", "a * b <= c / d;"), ("(-a) < (-b);", "-a < -b;"),
    ("(a.b) in ([c]);", "a.b in [c];"),
    ("(a * b) + (c / d) - (e % f);", "a * b + c / d - e % f;"), ("(-a) + (-b) - (-c);", "-a + -b - -c;"),
    ("(a()) + (b[c]);", "a() + b[c];"),
    ("(-a) * (-b) / (-c) % (-d);", "-a * -b / -c % -d;"), ("(a.b) * (c());", "a.b * c();"), ("({}) * ([]);", "{} * [];"),
    ("-(a.b);", "-a.b;"), ("-(a);", "-a;"), ("-([a for x in b]);", "-[a for x in b];"), ("-({});", "-{};"),
    ("(a).b;", "a.b;"), ("(a)(b);", "a(b);"), ("(1)[b];", "1[b];"), ("([a]).b;", "[a].b;"), ("({a: b}).c;", "{a: b}.c;"),
    ("([a for x in b])[c];", "[a for x in b][c];"), ('("t").a;', '"t".a;'), ("(true)();", "true();"),
    ("f((a or b), n = (c or d));", "f(a or b, n = c or d);"), ("a[(b or c)];", "a[b or c];"),
    ("[(a or b), (not c)];", "[a or b, not c];"), ("{n: (a or b)};", "{n: a or b};"),
    ("[(a or b) for x in (c or d) if (e or f)];", "[a or b for x in c or d if e or f];"),
    ("[(a in b) for x in (c in d) if (e in f)];", "[a in b for x in c in d if e in f];"),
    ("x = (a or b);", "x = a or b;"), ("x = (y == z);", "x = y == z;"), ("f((a == b));", "f(a == b);"),
]

LINES = [
    ("", ""),
    (" # nothing\n", ""),
    ("a;b;c;", "a;\nb;\nc;\n"),
    ("def f(){}", "def f() {\n}\n"),
    ("def f(a){}", "def f(a) {\n}\n"),
    ("def f(a=1,b=(c or d)){return;}", "def f(a = 1, b = c or d) {\n  return;\n}\n"),
    ("def f(a,b,c=[]){x=a;x;return(x);}", "def f(a, b, c = []) {\n  x = a;\n  x;\n  return x;\n}\n"),
    ("if(a){}", "if a {\n}\n"),
    ("if(a or b){c;}d;", "if a or b {\n  c;\n}\nd;\n"),
    ("if a{}else{}", "if a {\n} else {\n}\n"),
    ("if a{b;}else{c;d;}", "if a {\n  b;\n} else {\n  c;\n  d;\n}\n"),
    ("if{}{}", "if {} {\n}\n"),
    ("for x in(y){x;}", "for x in y {\n  x;\n}\n"),
    ("for x in a in b{}", "for x in a in b {\n}\n"),
    (
        "if a{if b{c;}else{for x in y{d;}e;}}else{if f{}}",
        "if a {\n  if b {\n    c;\n  } else {\n    for x in y {\n      d;\n    }\n    e;\n  }\n"
        "} else {\n  if f {\n  }\n}\n",
    ),
    (
        "def f(){if a{return 1;}else{b=2;}for x in b{if x{return{};}}return;}g=f;",
        "def f() {\n  if a {\n    return 1;\n  } else {\n    b = 2;\n  }\n  for x in b {\n    if x {\n      return {};\n"
        "    }\n  }\n  return;\n}\ng = f;\n",
    ),
    ('load"t"a,b;load "u"c;', 'load "t" a, b;\nload "u" c;\n'),
    ("x\n=\t1\r;# remark", "x = 1;\n"),
    ("-  a  .  b  [  c  ]  (  d  ,  n=e  )  ;", "-a.b[c](d, n = e);\n"),
    ("{  n  :a,m:b  }  ;[  ]  ;{  }  ;f(  )  ;", "{n: a, m: b};\n[];\n{};\nf();\n"),
    ("a<=b;a<b;a==b;a!=b;a in b;", "a <= b;\na < b;\na == b;\na != b;\na in b;\n"),
]


COMPARISONS = ["==", "!=", "<", "<=", "in"]


class Plain(unittest.TestCase):
    def test_each_comparison_within_each_rule(self):
        for sign in COMPARISONS:
            compared = "a " + sign + " b"
            with self.subTest(sign):
                for around in ["(%s) + c;", "c - (%s);", "(%s) * c;", "-(%s);", "(%s).c;", "c == (%s);", "(%s) in c;"]:
                    self.assertEqual(plain_of(around % compared), around % compared + "\n")
                for around in ["not (%s);", "(%s) and c;", "c and (%s);", "(%s) or c;", "c[(%s)];", "x = (%s);"]:
                    form = around.replace("(", "").replace(")", "") % compared
                    self.assertEqual(plain_of(around % compared), form + "\n")

    def test_as_it_stands(self):
        for text in AS_IT_STANDS + KEPT:
            with self.subTest(text):
                self.assertEqual(plain_of(text), text + "\n")

    def test_parentheses_left_out(self):
        for text, form in LEFT_OUT:
            with self.subTest(text):
                self.assertEqual(plain_of(text), form + "\n")

    def test_parentheses_around_all(self):
        for text in KEPT:
            with self.subTest(text):
                self.assertEqual(plain_of("((" + text[:-1] + "));"), text + "\n")

    def test_lines(self):
        for text, form in LINES:
            with self.subTest(text):
                self.assertEqual(plain_of(text), form)
                self.assertEqual(plain_of(form), form)

    def test_twelve_blocks(self):
        form = "".join("  " * depth + "if x {\n" for depth in range(12))
        form += "  " * 12 + "a;\n"
        form += "".join("  " * depth + "}\n" for depth in reversed(range(12)))
        self.assertEqual(plain_of("if x {" * 12 + "a;" + "}" * 12), form)

    def test_refused_as_reading_refuses(self):
        for text, number in [
            (" " * 4097, -1), ("!", -2), ("x = 1", -3), ("(" * 13, -4), ("return;", -5), ("a = 1; a = 2;", -6), ("f(a = 1, 2);", -7),
        ]:
            with self.subTest(number):
                self.assertEqual(plain(codes(text)), [number])


class QuotedForms(unittest.TestCase):
    def form_of(self, told):
        form = plain_of('"' + told + '";')
        self.assertEqual((form[0], form[-3:]), ('"', '";\n'))
        return form[1:-3]

    def test_each_byte_in_its_one_way(self):
        for byte in range(256):
            with self.subTest(byte):
                told = "\\x%02x" % byte
                expected = told
                if 32 <= byte <= 126:
                    expected = chr(byte)
                expected = {34: '\\"', 92: "\\\\", 10: "\\n", 9: "\\t"}.get(byte, expected)
                self.assertEqual(self.form_of(told), expected)
                self.assertEqual(self.form_of(expected), expected)

    def test_the_other_ways(self):
        self.assertEqual(self.form_of('\\"\\\\\\n\\t'), '\\"\\\\\\n\\t')
        self.assertEqual(self.form_of("\\x22\\x5c\\x0a\\x09\\x41\\x7f\\x80\\xff\\x0d"), '\\"\\\\\\n\\tA\\x7f\\x80\\xff\\x0d')
        self.assertEqual(self.form_of("# % {a} \\x20"), "# % {a}  ")

    def test_as_the_text_of_a_load(self):
        self.assertEqual(plain_of('load "\\x41\\x00" a;'), 'load "A\\x00" a;\n')


if __name__ == "__main__":
    unittest.main()
