"""Which names are local in which parts of a file, and which uses mean no local name."""

from buildtext.naming import names_at_file_level
from buildtext.trees import DEF, FOR, GIVING, LIST_FOR, LOAD, NAME, PARAM


def told_free_names(file_tree):
    numbers = []
    known = widened({}, names_at_file_level(file_tree))
    for use in uses_of_no_local(file_tree):
        name = tuple(use.data)
        if name not in known:
            known[name] = True
            numbers.append(len(use.data))
            numbers.extend(use.data)
    return numbers


# The leaves that use a name which is not local at their place, in the order of the text. The row
# of trees still to be looked at takes the place of calls within one another.
def uses_of_no_local(file_tree):
    uses = []
    work = [(file_tree, {})]
    while len(work) > 0:
        entry = work.pop()
        tree = entry[0]
        local_names = entry[1]
        if tree.kind == NAME and tuple(tree.data) not in local_names:
            uses.append(tree)
        for inner in reversed(using_parts(tree, local_names)):
            work.append(inner)
    return uses


# The parts that don't give a name themselves, each with the names that are local in it.
def using_parts(tree, local_names):
    parts = tree.parts
    if tree.kind == LOAD:
        return []
    if tree.kind == DEF:
        return [(parts[1], local_names), (parts[2], widened(local_names, names_local_in_def(tree)))]
    if tree.kind == FOR:
        # In a def this makes nothing wider: there the name is local around the for already.
        return [(parts[1], local_names), (parts[2], widened(local_names, parts[:1]))]
    if tree.kind == LIST_FOR:
        wider = widened(local_names, parts[1:2])
        return [(parts[0], wider), (parts[2], local_names)] + [(part, wider) for part in parts[3:]]
    if tree.kind == PARAM or tree.kind == GIVING:
        return [(part, local_names) for part in parts[1:]]
    return [(part, local_names) for part in parts]


# The names as the keys of a dict, those that were there and more.
def widened(known, names):
    wider = dict(known)
    for name in names:
        wider[tuple(name.data)] = True
    return wider


def names_local_in_def(def_tree):
    names = [param.parts[0] for param in def_tree.parts[1].parts]
    work = [def_tree.parts[2]]
    while len(work) > 0:
        tree = work.pop()
        if tree.kind == GIVING or tree.kind == FOR:
            names.append(tree.parts[0])
        work.extend(tree.parts)
    return names
