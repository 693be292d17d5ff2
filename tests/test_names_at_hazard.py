"""names, free and rename on trees drawn at hazard, in which names at file level, local names and used ones are often
alike; size on the same trees.

The draws are the same each time: the source of chance is given its beginning.
"""

import random
import unittest

from buildtext.desk import free, names, plain, rename, size
from tests.drawn_trees import NAMES, Drawing
from tests.meanings import exchanged, free_answer, meanings, names_answer, rename_refusal
from tests.support import codes, grown, measured
from tests.written_trees import Writing

FILES = 500


def files(seed):
    """Texts and their trees."""
    chance = random.Random(seed)
    for number in range(FILES):
        writing = Writing(chance, Drawing(chance, chance.randrange(7)).file())
        if writing.most_open <= 12 and len(writing.text) <= 4096:
            yield codes(writing.text), grown(writing.numbers)


class NamesAtHazard(unittest.TestCase):
    def test_names(self):
        count = 0
        for text, tree in files(21):
            expected = names_answer(tree)
            count += len(expected) > 0
            self.assertEqual(names(text), [0] + expected, bytes(text))
        self.assertGreater(count, FILES // 2)

    def test_free(self):
        seen = {"given": 0, "local": 0, "file": 0, "free": 0}
        for text, tree in files(22):
            for leaf, meaning in meanings(tree):
                seen[meaning] += 1
            self.assertEqual(free(text), [0] + free_answer(tree), bytes(text))
        self.assertGreater(min(seen.values()), FILES, seen)

    def test_the_plain_form_has_the_same_free_names(self):
        count = 0
        for text, tree in files(23):
            form = plain(text)
            if form[0] == 0 and len(form) <= 4097:
                count += 1
                self.assertEqual(free(form[1:]), free(text), bytes(text))
        self.assertGreater(count, FILES // 2)

    def test_rename(self):
        chance = random.Random(24)
        seen = {0: 0, -8: 0, -10: 0, -11: 0}
        for text, tree in files(25):
            given = [leaf[2] for leaf, meaning in meanings(tree) if meaning == "given"]
            for time in range(4):
                old = chance.choice(given + [tuple(codes(chance.choice(NAMES)))])
                new = tuple(codes(chance.choice(NAMES + ["k", "k2", "K" * 32, "g1"] * 2)))
                answer = rename(text, list(old), list(new))
                refusal = rename_refusal(tree, old, new)
                seen[answer[0]] += 1
                with self.subTest(text=bytes(text), old=bytes(old), new=bytes(new)):
                    if refusal:
                        self.assertEqual(answer, [refusal])
                        continue
                    other = exchanged(text, tree, old, new)
                    if len(other) <= 4096:
                        self.assertEqual(answer, plain(other))
                        self.assertEqual(free(other), free(text))
        self.assertGreater(min(seen[0], seen[-10], seen[-11]), FILES // 4, seen)

    def test_rename_there_and_back(self):
        count = 0
        for text, tree in files(26):
            local_names = [leaf[2] for leaf, meaning in meanings(tree) if meaning == "local"]
            for old in [leaf[2] for leaf, meaning in meanings(tree) if meaning == "given"]:
                form = rename(text, list(old), codes("fresh"))
                if form[0] == 0 and len(form) <= 4097:
                    count += 1
                    asked = [-11] if old in local_names else plain(text)
                    self.assertEqual(rename(form[1:], codes("fresh"), list(old)), asked, bytes(text))
        self.assertGreater(count, FILES // 2)

    def test_size(self):
        for text, tree in files(27):
            self.assertEqual(size(text), list(measured(tree)), bytes(text))


if __name__ == "__main__":
    unittest.main()
