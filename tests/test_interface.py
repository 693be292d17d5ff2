"""The interface: the names of the calls and of their arguments, and what kind of thing each gives back."""

import contextlib
import inspect
import io
import unittest

from buildtext import desk
from tests.support import EACH_KIND, codes

ARGUMENTS = {
    "where": ["text"], "plain": ["text"], "tree": ["text"], "same": ["a", "b"], "names": ["text"], "free": ["text"],
    "rename": ["text", "old", "new"], "size": ["text"],
}
HANDED = {"text": EACH_KIND, "a": EACH_KIND, "b": EACH_KIND, "old": "f", "new": "fresh"}


class Interface(unittest.TestCase):
    def test_names_and_arguments(self):
        for name, arguments in ARGUMENTS.items():
            with self.subTest(name):
                self.assertEqual(list(inspect.signature(getattr(desk, name)).parameters), arguments)

    def test_arguments_by_name_and_by_place(self):
        for name, arguments in ARGUMENTS.items():
            with self.subTest(name):
                call = getattr(desk, name)
                by_place = call(*[codes(HANDED[argument]) for argument in arguments])
                by_name = call(**{argument: codes(HANDED[argument]) for argument in arguments})
                self.assertEqual(by_place, by_name)
                self.assertIs(type(by_place), list)
                self.assertEqual({type(number) for number in by_place}, {int})
                self.assertGreaterEqual(by_place[0], 0)

    def test_nothing_is_printed(self):
        out = io.StringIO()
        with contextlib.redirect_stdout(out), contextlib.redirect_stderr(out):
            for name, arguments in ARGUMENTS.items():
                for text in (EACH_KIND, "x = 1", ""):
                    getattr(desk, name)(*[codes(text) for argument in arguments])
        self.assertEqual(out.getvalue(), "")

    def test_the_refusals_of_reading_are_those_of_where(self):
        for text in ["!", "x = 1", "(" * 13, "return;", "a = 1; a = 2;", "f(a = 1, 2);", " " * 4097, " " * 10000]:
            number = desk.where(codes(text))[0]
            self.assertIn(number, range(1, 8))
            for name in ("plain", "tree", "names", "free", "size"):
                self.assertEqual(getattr(desk, name)(codes(text)), [-number])
            self.assertEqual(desk.rename(codes(text), codes("a"), codes("b")), [-number])
            self.assertEqual(desk.same(codes(text), codes(text)), [-number])
            self.assertEqual(desk.same([], codes(text)), [-number - 20])


if __name__ == "__main__":
    unittest.main()
