"""What is handed in stays as it was, nothing is kept between calls, and answers are lists of int."""

import unittest

from buildtext.desk import plain, where
from tests.support import codes

TEXTS = [
    "", "a;", "x = 1", "!", "(" * 13, "return;", "a = 1; a = 2;", "f(a = 1, 2);", " " * 4097, " " * 10000,
    'load "t\\n\\x00" a, b; def f(x, y = 1) { if x { return [z for z in y if -z]; } else { q = {n: a % b}; } }',
    "if x {" * 12 + "a;" * 2006 + "}" * 12,
]


def refuse_change(*given, **named):
    raise AssertionError("what was handed in is changed")


class Untouchable(list):
    """A list that can be read, but not changed."""
    __setitem__ = __delitem__ = __iadd__ = __imul__ = refuse_change
    append = extend = insert = pop = remove = clear = sort = reverse = refuse_change


class HandedIn(unittest.TestCase):
    def test_nothing_is_changed(self):
        for text in TEXTS:
            for call in (where, plain):
                with self.subTest(call=call.__name__, text=text[:40]):
                    handed = Untouchable(codes(text))
                    answer = call(handed)
                    self.assertEqual(list(handed), codes(text))
                    self.assertEqual(answer, call(codes(text)))

    def test_the_answer_is_not_what_was_handed_in(self):
        for text in TEXTS:
            handed = codes(text)
            answers = (where(handed), plain(handed))
            for answer in answers:
                self.assertIsNot(answer, handed)
                answer.append(1)
                answer.clear()
            self.assertEqual(handed, codes(text))

    def test_a_second_time(self):
        for call in (where, plain):
            first = [call(codes(text)) for text in TEXTS]
            for answer in [call(codes(text)) for text in TEXTS]:
                answer.reverse()
                answer.append(7)
            again = [call(codes(text)) for text in reversed(TEXTS)]
            self.assertEqual(first, list(reversed(again)))

    def test_lists_of_int(self):
        for text in TEXTS:
            for call in (where, plain):
                with self.subTest(call=call.__name__, text=text[:40]):
                    answer = call(codes(text))
                    self.assertIs(type(answer), list)
                    self.assertEqual({type(number) for number in answer}, {int})

    def test_where_answers_two_numbers(self):
        for text in TEXTS:
            answer = where(codes(text))
            self.assertEqual(len(answer), 2)
            self.assertIn(answer[0], range(8))
            self.assertIn(answer[1], range(4097))


if __name__ == "__main__":
    unittest.main()
