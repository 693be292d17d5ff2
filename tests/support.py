"""What the tests share: texts as lists of bytes, and the calls on ASCII texts."""

from buildtext.desk import plain, where

BRACKETS = {"(": ")", "[": "]", "{": "}"}


def codes(text):
    return list(text.encode("latin-1"))


def where_of(text):
    return where(codes(text))


def plain_of(text):
    """The plain form as a text; a refusal as its number."""
    answer = plain(codes(text))
    if answer[0] != 0:
        assert len(answer) == 1, answer
        return answer[0]
    return bytes(answer[1:]).decode("ascii")


def tree_numbers(tree):
    """A tree as the numbers that the document tells for it."""
    numbers = [tree.kind, tree.place]
    if tree.kind < 10:
        return numbers + [len(tree.data)] + tree.data
    numbers.append(len(tree.parts))
    for part in tree.parts:
        numbers.extend(tree_numbers(part))
    return numbers


def shape(tree):
    """A tree without its places."""
    if tree.kind < 10:
        return (tree.kind, tuple(tree.data))
    return (tree.kind, tuple(shape(part) for part in tree.parts))


def leaves_nodes_depth(tree):
    if tree.kind < 10:
        return (1, 0, 1)
    counted = [leaves_nodes_depth(part) for part in tree.parts]
    leaves = sum(entry[0] for entry in counted)
    nodes = 1 + sum(entry[1] for entry in counted)
    depth = 1 + max((entry[2] for entry in counted), default=0)
    return (leaves, nodes, depth)
