"""The names that a file gives at file level."""

from buildtext.trees import DEF, GIVING, LOAD

# By the kind of the STMT that gives a name at file level: the number that tells it.
GIVERS = {11: 1, 12: 2, 19: 3}


def names_at_file_level(file_tree):
    names = []
    for stmt in file_tree.parts:
        names.extend(names_given_by(stmt))
    return names


# A for gives a name too, but never at file level.
def names_given_by(stmt):
    if stmt.kind == LOAD:
        return stmt.parts[1:]
    if stmt.kind == DEF or stmt.kind == GIVING:
        return stmt.parts[:1]
    return []


def told_names(file_tree):
    numbers = []
    for stmt in file_tree.parts:
        for name in names_given_by(stmt):
            numbers.extend([GIVERS[stmt.kind], name.place, len(name.data)])
            numbers.extend(name.data)
    return numbers
