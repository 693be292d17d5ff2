"""Faults of place and number, in a tree that the grammar allows."""

from buildtext.naming import names_at_file_level
from buildtext.refusals import BehindFault, PlaceFault, TwiceFault
from buildtext.trees import (
    BLOCK, CALL, DEF, FILE, GIVING, LOAD, NAMED_ARG, PARAM, PARAMS, RECORD, RETURN,
)

PLACE = 5
TWICE = 6
BEHIND = 7


def check_placing(file_tree):
    found = faults_in(file_tree)
    if len(found) > 0:
        # Pairs are ordered by position, then by number, as the faults count.
        refuse(min(found))


def refuse(fault):
    if fault[1] == PLACE:
        raise PlaceFault(fault[0])
    if fault[1] == TWICE:
        raise TwiceFault(fault[0])
    raise BehindFault(fault[0])


# Each fault as its position and its number.
def faults_in(file_tree):
    found = []
    work = [(file_tree, False, False)]
    while len(work) > 0:
        entry = work.pop()
        tree = entry[0]
        in_block = entry[1]
        in_def = entry[2]
        if is_misplaced(tree, in_block, in_def):
            found.append((tree.place, PLACE))
        found.extend(twice_faults(labels_of(tree)))
        found.extend(behind_faults(tree))
        for part in tree.parts:
            work.append((part, in_block or tree.kind == BLOCK, in_def or tree.kind == DEF))
    return found


def is_misplaced(tree, in_block, in_def):
    if tree.kind == LOAD or tree.kind == DEF:
        return in_block
    if tree.kind == RETURN:
        return not in_def
    return tree.kind == GIVING and in_block and not in_def


# The names of which none may stand there a second time.
def labels_of(tree):
    if tree.kind == FILE:
        return names_at_file_level(tree)
    if tree.kind == PARAMS or tree.kind == RECORD:
        return [part.parts[0] for part in tree.parts]
    if tree.kind == CALL:
        return [arg.parts[0] for arg in tree.parts if arg.kind == NAMED_ARG]
    return []


def twice_faults(labels):
    found = []
    known = {}
    for label in labels:
        name = tuple(label.data)
        if name in known:
            found.append((label.place, TWICE))
        known[name] = True
    return found


# Only an ARG or a PARAM has a giving, so among other parts nothing is found.
def behind_faults(tree):
    found = []
    is_behind = False
    for part in tree.parts:
        if has_giving(part):
            is_behind = True
        elif is_behind:
            found.append((part.place, BEHIND))
    return found


def has_giving(part):
    return part.kind == NAMED_ARG or (part.kind == PARAM and len(part.parts) == 2)
