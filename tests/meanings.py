"""What each leaf of kind 3 gives or means, told leaf by leaf from the trees around it, as the document's paragraphs
on names tell it. Nothing of the program is used here.

A tree is its kind, its place, and its bytes or its parts, all as tuples."""

LOAD, DEF, PARAMS, PARAM, BLOCK, FOR, GIVING, LIST_FOR = 11, 12, 13, 14, 15, 17, 19, 49

# In which of its parts a node gives names, not those of a load.
GIVING_PART = {DEF: 0, PARAM: 0, FOR: 0, GIVING: 0, LIST_FOR: 1}


def name_leaves(tree, above=()):
    """The leaves of kind 3 in the order of the text, each behind its path: the trees around it, each with the number
    of the part in which it stands."""
    kind, place, held = tree
    if kind == 3:
        return [(above, tree)]
    found = []
    if kind >= 10:
        for number, part in enumerate(held):
            found += name_leaves(part, above + ((tree, number),))
    return found


def gives(above):
    around, number = above[-1]
    if around[0] == LOAD:
        return number > 0
    return GIVING_PART.get(around[0]) == number


def is_at_file_level(above):
    return gives(above) and above[-1][0][0] in (LOAD, DEF, GIVING) and not any(around[0] == BLOCK for around, number in above)


def names_given(tree, kinds):
    return {leaf[2] for above, leaf in name_leaves(tree) if gives(above) and above[-1][0][0] in kinds}


def is_local(above, name):
    """Whether this name is local where a path leads to."""
    in_def = False
    for around, number in above:
        kind, place, parts = around
        if kind == DEF:
            in_def = number == 2
            if in_def and name in names_given(parts[1], [PARAM]) | names_given(parts[2], [GIVING, FOR]):
                return True
        if kind == FOR and not in_def and number == 2 and parts[0][2] == name:
            return True
        if kind == LIST_FOR and number in (0, 3) and parts[1][2] == name:
            return True
    return False


def meanings(tree):
    """Each leaf of kind 3, in the order of the text, with what it is: given (at file level), local (given or used),
    file (a use that means what is given at file level) or free."""
    leaves = name_leaves(tree)
    at_file_level = {leaf[2] for above, leaf in leaves if is_at_file_level(above)}
    found = []
    for above, leaf in leaves:
        if is_at_file_level(above):
            found.append((leaf, "given"))
        elif gives(above) or is_local(above, leaf[2]):
            found.append((leaf, "local"))
        else:
            found.append((leaf, "file" if leaf[2] in at_file_level else "free"))
    return found


def names_answer(tree):
    """What names answers for a tree, behind the 0."""
    numbers = []
    for above, leaf in name_leaves(tree):
        if is_at_file_level(above):
            giver = {LOAD: 1, DEF: 2, GIVING: 3}[above[-1][0][0]]
            numbers += [giver, leaf[1], len(leaf[2])] + list(leaf[2])
    return numbers


def free_answer(tree):
    """What free answers for a tree, behind the 0."""
    numbers, told = [], set()
    for leaf, meaning in meanings(tree):
        if meaning == "free" and leaf[2] not in told:
            told.add(leaf[2])
            numbers += [len(leaf[2])] + list(leaf[2])
    return numbers


def rename_refusal(tree, old, new):
    """ABSENT or TAKEN, or 0; old and new as tuples of bytes."""
    leaves = meanings(tree)
    if (old, "given") not in [(leaf[2], meaning) for leaf, meaning in leaves]:
        return -10
    return -11 if new in [leaf[2] for leaf, meaning in leaves] else 0


def exchanged(text, tree, old, new):
    """The text itself, whatever its form is, with new in the places of the leaves that rename exchanges."""
    result = list(text)
    for leaf, meaning in reversed(meanings(tree)):
        if leaf[2] == old and meaning in ("given", "file"):
            result[leaf[1]:leaf[1] + len(old)] = new
    return result
