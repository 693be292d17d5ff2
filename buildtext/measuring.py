"""How many leaves and nodes a tree has, and its depth."""

from buildtext.trees import is_leaf


# The row of trees still to be counted takes the place of calls within one another.
def measures_of(file_tree):
    leaves = 0
    nodes = 0
    depth = 0
    work = [(file_tree, 1)]
    while len(work) > 0:
        entry = work.pop()
        tree = entry[0]
        level = entry[1]
        depth = max(depth, level)
        if is_leaf(tree):
            leaves += 1
        else:
            nodes += 1
        work.extend([(part, level + 1) for part in tree.parts])
    return [leaves, nodes, depth]
