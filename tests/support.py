"""What the tests share: texts as lists of bytes, the calls on ASCII texts, and trees made of their numbers."""

from buildtext.desk import free, names, plain, rename, same, size, tree, where

BRACKETS = {"(": ")", "[": "]", "{": "}"}

# A text for each refusal of reading, without its sign.
REFUSED = {
    1: " " * 4097, 2: "!", 3: "x = 1", 4: "(" * 13, 5: "return;", 6: "a = 1; a = 2;", 7: "f(a = 1, 2);",
}

# A text whose tree has each kind of leaf and of node.
EACH_KIND = """
load "t" a, b;
def f(c, d = 1) { if true { return; } else { e = false; } for g in none { return g; } }
x = [a or b, a and b, not a, a == b, a != b, a < b, a <= b, a in b, a + b - c, a * b / c % d];
{n: -a, m: f(a, n = b)[c].d};
[y for y in x if y];
"""

# Different names of one byte, then of two; none is a kept word.
LETTERS = "abcdefghijklmnopqrstuvwxyzABCDEFGHIJKLMNOPQRSTUVWXYZ_"
PAIRS = [first + second for first in LETTERS for second in "abcdeghjklmpqstuvwxyz0123456789"]
SHORT_NAMES = list(LETTERS) + PAIRS


def codes(text):
    return list(text.encode("latin-1"))


def check_refusals_of_reading(case, call):
    """Whether a call refuses as reading refuses, also where something that can be read stands ahead of the fault."""
    for number, text in REFUSED.items():
        with case.subTest(number):
            case.assertEqual(call(codes(text)), [-number])
            case.assertEqual(call(codes("q = p; " + text)), [-number])
            case.assertEqual(call(codes("q = p; " + text + " " * 4096)), [-1])


def where_of(text):
    return where(codes(text))


def plain_of(text):
    """The plain form as a text; a refusal as its number."""
    return form_or_refusal(plain(codes(text)))


def renamed(text, old, new):
    """The form that rename answers as a text; a refusal as its number."""
    return form_or_refusal(rename(codes(text), codes(old), codes(new)))


def form_or_refusal(answer):
    if answer[0] != 0:
        assert len(answer) == 1, answer
        return answer[0]
    return bytes(answer[1:]).decode("ascii")


def numbers_of(text):
    """The numbers of a text's tree, a text of bytes or an ASCII one."""
    answer = tree(codes(text) if isinstance(text, str) else text)
    assert answer[0] == 0, answer
    return answer[1:]


def same_of(a, b):
    """The one number that same answers."""
    answer = same(codes(a), codes(b))
    assert len(answer) == 1, answer
    return answer[0]


def names_of(text):
    """What names tells: the number, the position and the name of each, the name as a text."""
    answer = names(codes(text))
    assert answer[0] == 0, answer
    found, at = [], 1
    while at < len(answer):
        giver, position = answer[at:at + 2]
        name, at = counted_at(answer, at + 2)
        found.append((giver, position, name))
    return found


def free_of(text):
    """What free tells: the names as texts."""
    answer = free(codes(text))
    assert answer[0] == 0, answer
    found, at = [], 1
    while at < len(answer):
        name, at = counted_at(answer, at)
        found.append(name)
    return found


def counted_at(numbers, at):
    """The text whose length and bytes stand there, and where they end."""
    after = at + 1 + numbers[at]
    assert after <= len(numbers) and after > at + 1, numbers
    return bytes(numbers[at + 1:after]).decode("ascii"), after


def grown(numbers):
    """A tree made of all its numbers: kind, place, and its bytes or its parts."""
    result, after = grown_at(numbers, 0)
    assert after == len(numbers), "numbers stand behind the tree"
    return result


def grown_at(numbers, at):
    kind, place, count = numbers[at:at + 3]
    at += 3
    if kind < 10:
        assert at + count <= len(numbers)
        return (kind, place, tuple(numbers[at:at + count])), at + count
    parts = []
    for time in range(count):
        part, at = grown_at(numbers, at)
        parts.append(part)
    return (kind, place, tuple(parts)), at


def shape(text):
    """A text's tree without its places."""
    return without_places(grown(numbers_of(text)))


def without_places(entry):
    kind, place, held = entry
    if kind < 10:
        return (kind, held)
    return (kind, tuple(without_places(part) for part in held))


def size_of(text):
    """What size answers: leaves, nodes and depth."""
    answer = size(codes(text))
    assert len(answer) == 3, answer
    return tuple(answer)


def leaves_nodes_depth(text):
    """The same counted from what tree answers."""
    return measured(grown(numbers_of(text)))


def measured(entry):
    kind, place, held = entry
    if kind < 10:
        return (1, 0, 1)
    counted = [measured(part) for part in held]
    leaves = sum(entry[0] for entry in counted)
    nodes = 1 + sum(entry[1] for entry in counted)
    depth = 1 + max((entry[2] for entry in counted), default=0)
    return (leaves, nodes, depth)


def kinds_in(entry):
    kind, place, held = entry
    found = {kind}
    if kind >= 10:
        for part in held:
            found |= kinds_in(part)
    return found
