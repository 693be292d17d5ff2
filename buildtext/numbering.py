"""A tree as numbers: its kinds and places, the bytes of its leaves and how many parts its nodes have."""

from buildtext.trees import is_leaf


# The row of trees still to be told takes the place of calls within one another.
def numbers_of(file_tree):
    numbers = []
    work = [file_tree]
    while len(work) > 0:
        tree = work.pop()
        numbers.extend(own_numbers(tree))
        for part in reversed(tree.parts):
            work.append(part)
    return numbers


def own_numbers(tree):
    if is_leaf(tree):
        return [tree.kind, tree.place, len(tree.data)] + tree.data
    return [tree.kind, tree.place, len(tree.parts)]
