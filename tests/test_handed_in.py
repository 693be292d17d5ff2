"""What is handed in stays as it was, nothing is kept between calls, and answers are lists of int."""

import unittest

from buildtext.desk import free, names, plain, rename, same, size, tree, where
from tests.support import codes

TEXTS = [
    "", "a;", "a", "b", "if", "n" * 32, "a = 1;", "a = 1; a(a, b = a); [a for a in a];", "a = 1;" + "a;" * 2045, "x = 1", "!", "(" * 13, "return;", "a = 1; a = 2;", "f(a = 1, 2);", " " * 4097, " " * 10000,
    "z; a = 1; for b in a { b; c; } [d for d in e]; z; c;",
    'load "t\\n\\x00" a, b; def f(x, y = 1) { if x { return [z for z in y if -z]; } else { q = {n: a % b}; } }',
    "if x {" * 12 + "a;" * 2006 + "}" * 12,
]


def refuse_change(*given, **named):
    raise AssertionError("what was handed in is changed")


class Untouchable(list):
    """A list that can be read, but not changed."""
    __setitem__ = __delitem__ = __iadd__ = __imul__ = refuse_change
    append = extend = insert = pop = remove = clear = sort = reverse = refuse_change


def same_as_first(text):
    return same(text, OTHER)


def same_as_second(text):
    return same(OTHER, text)


def same_as_itself(text):
    return same(text, text)


def rename_in(text):
    return rename(text, OLD, NEW)


def rename_from(text):
    return rename(GIVING, text, NEW)


def rename_to(text):
    return rename(GIVING, OLD, text)


def rename_by_itself(text):
    return rename(text, text, text)


OTHER, GIVING, OLD, NEW = codes("a ;"), codes("a = a;"), codes("a"), codes("k")
SHARED = (OTHER, GIVING, OLD, NEW)
CALLS = (
    where, plain, tree, names, free, size, same_as_first, same_as_second, same_as_itself, rename_in, rename_from, rename_to, rename_by_itself,
)


class HandedIn(unittest.TestCase):
    def test_nothing_is_changed(self):
        for text in TEXTS:
            for call in CALLS:
                with self.subTest(call=call.__name__, text=text[:40]):
                    handed = Untouchable(codes(text))
                    answer = call(handed)
                    self.assertEqual(list(handed), codes(text))
                    self.assertEqual(answer, call(codes(text)))
        self.assertEqual(SHARED, (codes("a ;"), codes("a = a;"), codes("a"), codes("k")))

    def test_nothing_of_either_is_changed(self):
        for a in TEXTS:
            for b in TEXTS:
                with self.subTest(a=a[:40], b=b[:40]):
                    first, second = Untouchable(codes(a)), Untouchable(codes(b))
                    answer = same(first, second)
                    self.assertEqual((list(first), list(second)), (codes(a), codes(b)))
                    self.assertEqual(answer, same(codes(a), codes(b)))

    def test_nothing_of_three_is_changed(self):
        for text in TEXTS:
            for old in ["", "a", "b", "if", "n" * 33, "a;"]:
                for new in ["", "a", "b", "kk", "0", "n" * 32]:
                    with self.subTest(text=text[:40], old=old, new=new):
                        handed = [Untouchable(codes(part)) for part in (text, old, new)]
                        answer = rename(*handed)
                        self.assertEqual([list(part) for part in handed], [codes(text), codes(old), codes(new)])
                        self.assertEqual(answer, rename(codes(text), codes(old), codes(new)))

    def test_one_list_handed_in_as_several(self):
        for text in TEXTS + ["a", "b", "", "in", "n" * 33]:
            one, other = codes(text), codes("a = 1; b;")
            with self.subTest(text[:40]):
                self.assertEqual(rename(one, one, one), rename(codes(text), codes(text), codes(text)))
                self.assertEqual(rename(other, one, one), rename(codes("a = 1; b;"), codes(text), codes(text)))
                self.assertEqual(rename(one, one, OLD), rename(codes(text), codes(text), codes("a")))
                self.assertEqual(rename(one, OLD, one), rename(codes(text), codes("a"), codes(text)))
                self.assertEqual(same(one, one), same(codes(text), codes(text)))
                self.assertEqual((one, other), (codes(text), codes("a = 1; b;")))
        name = codes("a")
        self.assertEqual(rename(codes("a = 1;"), name, name), [-11])
        self.assertEqual(rename(name, name, name), [-3])
        nothing = []
        self.assertEqual(rename(nothing, nothing, nothing), [-9])

    def test_an_answer_that_is_changed_changes_no_text(self):
        new = codes("k")
        answer = rename(codes("a = a;"), codes("a"), new)
        self.assertEqual(answer, [0] + codes("k = k;\n"))
        answer[1] = 7
        self.assertEqual(new, codes("k"))
        self.assertEqual(rename(codes("a = a;"), codes("a"), new), [0] + codes("k = k;\n"))

    def test_the_answer_is_not_what_was_handed_in(self):
        for text in TEXTS:
            handed = codes(text)
            for call in CALLS:
                answer = call(handed)
                self.assertIsNot(answer, handed)
                answer.append(1)
                answer.clear()
            self.assertEqual(handed, codes(text))

    def test_a_second_time(self):
        for call in CALLS:
            first = [call(codes(text)) for text in TEXTS]
            for answer in [call(codes(text)) for text in TEXTS]:
                answer.reverse()
                answer.append(7)
            again = [call(codes(text)) for text in reversed(TEXTS)]
            self.assertEqual(first, list(reversed(again)))

    def test_lists_of_int(self):
        for text in TEXTS:
            for call in CALLS:
                with self.subTest(call=call.__name__, text=text[:40]):
                    answer = call(codes(text))
                    self.assertIs(type(answer), list)
                    self.assertEqual({type(number) for number in answer}, {int})

    def test_same_answers_one_number(self):
        numbers = set()
        for text in TEXTS:
            for call in (same_as_first, same_as_second, same_as_itself):
                answer = call(codes(text))
                self.assertEqual(len(answer), 1)
                numbers.update(answer)
        self.assertEqual(numbers, {0, 1} | set(range(-7, 0)) | set(range(-27, -20)))

    def test_a_refusal_stands_alone(self):
        for call in (tree, names, free, size):
            for text in TEXTS:
                with self.subTest(call=call.__name__, text=text[:40]):
                    answer = call(codes(text))
                    number = where(codes(text))[0]
                    if number != 0:
                        self.assertEqual(answer, [-number])
                    else:
                        self.assertGreaterEqual(answer[0], 0)
        for text in TEXTS:
            for call in (plain, rename_in, rename_from, rename_to):
                answer = call(codes(text))
                self.assertEqual(len(answer) == 1, answer[0] < 0 or text == "")

    def test_where_answers_two_numbers(self):
        for text in TEXTS:
            answer = where(codes(text))
            self.assertEqual(len(answer), 2)
            self.assertIn(answer[0], range(8))
            self.assertIn(answer[1], range(4097))


if __name__ == "__main__":
    unittest.main()
