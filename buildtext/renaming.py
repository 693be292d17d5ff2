"""A name that a file gives at file level, exchanged for another."""

from buildtext.cutting import is_name
from buildtext.naming import names_at_file_level
from buildtext.refusals import AbsentFault, NameFault, TakenFault
from buildtext.scoping import uses_of_no_local
from buildtext.trees import NAME


def check_names(old, new):
    if not is_name(old) or not is_name(new):
        raise NameFault()


# Changes the tree, which the caller has read for this alone.
def exchange_name(file_tree, old, new):
    given = leaves_named(names_at_file_level(file_tree), old)
    if len(given) == 0:
        raise AbsentFault()
    if has_name(file_tree, new):
        raise TakenFault()
    # The file gives old, so a use of it that means no local name means that one.
    for name in given + leaves_named(uses_of_no_local(file_tree), old):
        name.data = list(new)


def leaves_named(leaves, data):
    return [name for name in leaves if name.data == data]


def has_name(file_tree, data):
    work = [file_tree]
    while len(work) > 0:
        tree = work.pop()
        if tree.kind == NAME and tree.data == data:
            return True
        work.extend(tree.parts)
    return False
