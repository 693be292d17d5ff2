"""tree and same on trees drawn at hazard, each written in several ways, and on trees that differ in one thing.

The draws are the same each time: the source of chance is given its beginning.
"""

import random
import unittest

from buildtext.desk import plain, same, tree, where
from tests.drawn_trees import Drawing, changed
from tests.support import codes, grown, kinds_in, shape
from tests.written_trees import Writing

FILES = 400


def written(chance, entry):
    """The text of a tree and its numbers; None where it has too many brackets or bytes."""
    writing = Writing(chance, entry)
    if writing.most_open > 12 or len(writing.text) > 4096:
        return None
    return codes(writing.text), writing.numbers


def as_shape(entry):
    kind, held = entry
    return (kind, tuple(held) if kind < 10 else tuple(as_shape(part) for part in held))


def files(seed):
    """Trees with two texts each, and the numbers of both."""
    chance = random.Random(seed)
    for number in range(FILES):
        entry = Drawing(chance).file()
        first, second = written(chance, entry), written(chance, entry)
        if first and second:
            yield chance, entry, first, second


class TreesAtHazard(unittest.TestCase):
    def test_tree_number_by_number(self):
        kinds, count = set(), 0
        for chance, entry, first, second in files(11):
            count += 1
            for text, numbers in (first, second):
                self.assertEqual(tree(text), [0] + numbers, bytes(text))
            self.assertEqual(shape(first[0]), as_shape(entry))
            kinds |= kinds_in(grown(first[1]))
        self.assertGreater(count, FILES // 2)
        self.assertEqual(len(kinds), 7 + 11 + 9 + 8 + 8)

    def test_same_where_one_tree_is_written_twice(self):
        for chance, entry, first, second in files(12):
            self.assertEqual(same(first[0], second[0]), [1], (bytes(first[0]), bytes(second[0])))

    def test_same_as_the_plain_form(self):
        count = 0
        for chance, entry, first, second in files(13):
            form = plain(first[0])
            self.assertEqual(form, plain(second[0]))
            if form[0] == 0 and len(form) <= 4097:
                count += 1
                self.assertEqual(same(first[0], form[1:]), [1], bytes(first[0]))
        self.assertGreater(count, FILES // 2)

    def test_not_same_where_one_thing_differs(self):
        count = 0
        for chance, entry, first, second in files(14):
            for time in range(5):
                other = changed(chance, entry)
                result = written(chance, other)
                if result is None or where(result[0]) != [0, 0]:
                    continue
                text = result[0]
                answer = [1 if other == entry else 0]
                count += other != entry
                self.assertEqual(same(first[0], text), answer, (bytes(first[0]), bytes(text)))
                self.assertEqual(same(text, second[0]), answer, (bytes(text), bytes(second[0])))
        self.assertGreater(count, FILES)

    def test_same_of_one_file_and_another(self):
        texts = [(entry, first[0]) for chance, entry, first, second in files(15)]
        for (entry, text), (other, another) in zip(texts, texts[1:]):
            self.assertEqual(same(text, another), [1 if entry == other else 0])


if __name__ == "__main__":
    unittest.main()
