"""names and free on trees drawn at hazard, in which names at file level, local names and used ones are often alike.

The draws are the same each time: the source of chance is given its beginning.
"""

import random
import unittest

from buildtext.desk import free, names, plain
from tests.drawn_trees import Drawing
from tests.meanings import free_answer, meanings, names_answer
from tests.support import codes, grown
from tests.written_trees import Writing

FILES = 500


def files(seed):
    """Texts and their trees."""
    chance = random.Random(seed)
    for number in range(FILES):
        writing = Writing(chance, Drawing(chance, chance.randrange(7)).file())
        if writing.most_open <= 12 and len(writing.text) <= 4096:
            yield codes(writing.text), grown(writing.numbers)


class NamesAtHazard(unittest.TestCase):
    def test_names(self):
        count = 0
        for text, tree in files(21):
            expected = names_answer(tree)
            count += len(expected) > 0
            self.assertEqual(names(text), [0] + expected, bytes(text))
        self.assertGreater(count, FILES // 2)

    def test_free(self):
        seen = {"given": 0, "local": 0, "file": 0, "free": 0}
        for text, tree in files(22):
            for leaf, meaning in meanings(tree):
                seen[meaning] += 1
            self.assertEqual(free(text), [0] + free_answer(tree), bytes(text))
        self.assertGreater(min(seen.values()), FILES, seen)

    def test_the_plain_form_has_the_same_free_names(self):
        count = 0
        for text, tree in files(23):
            form = plain(text)
            if form[0] == 0 and len(form) <= 4097:
                count += 1
                self.assertEqual(free(form[1:]), free(text), bytes(text))
        self.assertGreater(count, FILES // 2)


if __name__ == "__main__":
    unittest.main()
