"""where, plain, tree and same on files drawn from the document's grammar, whole and spoiled.

The draws are the same each time: the source of chance is given its beginning.
"""

import random
import unittest

from buildtext.desk import plain, same, tree, where
from tests.grammar import drawn, first_fault
from tests.support import codes, shape

FILES = 150
SIGNS = "= < + - * / % ( ) [ ] { } , ; : . == != <= load def if else for in return or and not true false none".split()
KINDS = SIGNS + ["name", "number", "text"]


def spelled(chance, kinds):
    """A text with these tokens, and the position of each, end among them."""
    text, places = "", []
    for number, kind in enumerate(kinds):
        if kind == "end":
            break
        word = kind
        if kind == "name":
            word = chance.choice("abcdefgh") + str(number)
        if kind == "number":
            word = chance.choice(["0", "7", "120"])
        if kind == "text":
            word = chance.choice(['""', '"a"', '"\\x00\\n"', '"\\""'])
        text += chance.choice([" ", "\n", "  ", " # remark\n", "\t"])
        places.append(len(text))
        text += word
    text += chance.choice(["", " ", "# end"])
    places.append(len(text))
    return text, places


def spoiled(chance, kinds):
    kinds = list(kinds)
    at = chance.randrange(len(kinds))
    way = chance.randrange(4)
    if way == 0 and kinds[at] != "end":
        kinds.pop(at)
    elif way == 1:
        kinds.insert(at, chance.choice(KINDS))
    elif kinds[at] != "end":
        kinds[at] = chance.choice(KINDS)
    return kinds


def drawn_file(chance):
    kinds = []
    for time in range(chance.randrange(5)):
        kinds += drawn(chance, "STMT", chance.choice([10, 20, 40]))
    return kinds + ["end"]


def drawn_expression(chance):
    return drawn(chance, "EXPR", chance.choice([15, 30, 60])) + [";", "end"]


class AtHazard(unittest.TestCase):
    def check_reading(self, chance, kinds):
        text, places = spelled(chance, kinds)
        if len(text) > 4096:
            return None
        number, token = first_fault(kinds)
        answer = where(codes(text))
        if number:
            self.assertEqual(answer, [number, places[token]], text)
            self.check_refused(codes(text), number)
            return None
        self.assertIn(answer[0], (0, 5, 6, 7), text)
        if answer[0] != 0:
            self.check_refused(codes(text), answer[0])
            return None
        return text

    def check_refused(self, text, number):
        self.assertEqual(plain(text), [-number])
        self.assertEqual(tree(text), [-number])
        self.assertEqual(same(text, []), [-number])
        self.assertEqual(same([], text), [-number - 20])

    def check_plain(self, text):
        answer = plain(codes(text))
        if answer == [-8]:
            return
        form = answer[1:]
        self.assertEqual(answer[0], 0)
        if len(form) <= 4096:
            self.assertEqual(plain(form), answer, text)
            self.assertEqual(shape(form), shape(text), text)
            self.assertEqual(same(form, codes(text)), [1], text)
            self.check_each_pair_is_needed(form)

    def check_each_pair_is_needed(self, form):
        whole = shape(form)
        for opening, closing in pairs(form):
            without = list(form)
            without[opening] = without[closing] = 32
            if where(without) == [0, 0]:
                self.assertNotEqual(shape(without), whole, bytes(form))
                self.assertEqual(same(without, form), [0], bytes(form))

    def check_drawn(self, chance, draw):
        """Files drawn one by one, each whole, then spoiled in three ways."""
        read = 0
        for number in range(FILES):
            kinds = draw(chance)
            text = self.check_reading(chance, kinds)
            if text is not None:
                read += 1
                self.check_plain(text)
            for time in range(3):
                self.check_reading(chance, spoiled(chance, kinds))
        self.assertGreater(read, FILES // 4)

    def test_files(self):
        self.check_drawn(random.Random(1), drawn_file)

    def test_expressions(self):
        self.check_drawn(random.Random(2), drawn_expression)

    def test_short_rows_of_tokens(self):
        chance = random.Random(3)
        for number in range(4 * FILES):
            kinds = [chance.choice(KINDS) for time in range(chance.randrange(6))] + ["end"]
            self.check_reading(chance, kinds)

    def test_deep_ones(self):
        chance = random.Random(4)
        for number in range(FILES):
            kinds = []
            for time in range(14):
                kinds += chance.choice([
                    ["("], ["["], ["{", "name", ":"], ["name", "("], ["name", "["], ["name", "(", "name", "="],
                    ["-", "("], ["not", "["], ["name", "+", "("],
                ])
            kinds = spoiled(chance, kinds[:chance.randrange(20, 60)] + ["end"])
            self.check_reading(chance, kinds)


def pairs(form):
    """Where the ( ) of a form stand that are outside of quotes."""
    found, opened, quoted, at = [], [], False, 0
    while at < len(form):
        sign = chr(form[at])
        if quoted and sign == "\\":
            at += 1
        elif sign == '"':
            quoted = not quoted
        elif not quoted and sign == "(":
            opened.append(at)
        elif not quoted and sign == ")":
            found.append((opened.pop(), at))
        at += 1
    return found


if __name__ == "__main__":
    unittest.main()
