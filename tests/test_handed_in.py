"""What is handed in stays as it was, nothing is kept between calls, and answers are lists of int."""

import unittest

from buildtext.desk import free, names, plain, same, tree, where
from tests.support import codes

TEXTS = [
    "", "a;", "x = 1", "!", "(" * 13, "return;", "a = 1; a = 2;", "f(a = 1, 2);", " " * 4097, " " * 10000,
    "z; a = 1; for b in a { b; c; } [d for d in e]; z; c;",
    'load "t\\n\\x00" a, b; def f(x, y = 1) { if x { return [z for z in y if -z]; } else { q = {n: a % b}; } }',
    "if x {" * 12 + "a;" * 2006 + "}" * 12,
]


def refuse_change(*given, **named):
    raise AssertionError("what was handed in is changed")


class Untouchable(list):
    """A list that can be read, but not changed."""
    __setitem__ = __delitem__ = __iadd__ = __imul__ = refuse_change
    append = extend = insert = pop = remove = clear = sort = reverse = refuse_change


def same_as_first(text):
    return same(text, OTHER)


def same_as_second(text):
    return same(OTHER, text)


def same_as_itself(text):
    return same(text, text)


OTHER = codes("a ;")
CALLS = (where, plain, tree, names, free, same_as_first, same_as_second, same_as_itself)


class HandedIn(unittest.TestCase):
    def test_nothing_is_changed(self):
        for text in TEXTS:
            for call in CALLS:
                with self.subTest(call=call.__name__, text=text[:40]):
                    handed = Untouchable(codes(text))
                    answer = call(handed)
                    self.assertEqual(list(handed), codes(text))
                    self.assertEqual(answer, call(codes(text)))
        self.assertEqual(OTHER, codes("a ;"))

    def test_nothing_of_either_is_changed(self):
        for a in TEXTS:
            for b in TEXTS:
                with self.subTest(a=a[:40], b=b[:40]):
                    first, second = Untouchable(codes(a)), Untouchable(codes(b))
                    answer = same(first, second)
                    self.assertEqual((list(first), list(second)), (codes(a), codes(b)))
                    self.assertEqual(answer, same(codes(a), codes(b)))

    def test_the_answer_is_not_what_was_handed_in(self):
        for text in TEXTS:
            handed = codes(text)
            for call in CALLS:
                answer = call(handed)
                self.assertIsNot(answer, handed)
                answer.append(1)
                answer.clear()
            self.assertEqual(handed, codes(text))

    def test_a_second_time(self):
        for call in CALLS:
            first = [call(codes(text)) for text in TEXTS]
            for answer in [call(codes(text)) for text in TEXTS]:
                answer.reverse()
                answer.append(7)
            again = [call(codes(text)) for text in reversed(TEXTS)]
            self.assertEqual(first, list(reversed(again)))

    def test_lists_of_int(self):
        for text in TEXTS:
            for call in CALLS:
                with self.subTest(call=call.__name__, text=text[:40]):
                    answer = call(codes(text))
                    self.assertIs(type(answer), list)
                    self.assertEqual({type(number) for number in answer}, {int})

    def test_same_answers_one_number(self):
        numbers = set()
        for text in TEXTS:
            for call in (same_as_first, same_as_second, same_as_itself):
                answer = call(codes(text))
                self.assertEqual(len(answer), 1)
                numbers.update(answer)
        self.assertEqual(numbers, {0, 1} | set(range(-7, 0)) | set(range(-27, -20)))

    def test_a_refusal_stands_alone(self):
        for call in (tree, names, free):
            for text in TEXTS:
                with self.subTest(call=call.__name__, text=text[:40]):
                    answer = call(codes(text))
                    number = where(codes(text))[0]
                    self.assertEqual(answer[0], -number)
                    if number != 0:
                        self.assertEqual(len(answer), 1)

    def test_where_answers_two_numbers(self):
        for text in TEXTS:
            answer = where(codes(text))
            self.assertEqual(len(answer), 2)
            self.assertIn(answer[0], range(8))
            self.assertIn(answer[1], range(4097))


if __name__ == "__main__":
    unittest.main()
