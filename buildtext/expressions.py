"""Reading EXPRs. Calls nest with the brackets alone, at most 12 of them."""

from buildtext.refusals import SyntaxFault
from buildtext.trees import (
    AND, CALL, DOT, ENTRY, INDEX, LABEL, LIST, LIST_FOR, MINUS, NAME, NAMED_ARG,
    NOT, OR, POST, PROD, RECORD, SUM, leaf, node,
)

# Token kinds, and the kinds of the trees that they make.
ATOM_LEAVES = {"number": 1, "text": 2, "name": 3, "true": 4, "false": 5, "none": 6}
COMPARISONS = {"==": 33, "!=": 34, "<": 35, "<=": 36, "in": 37}
SIGN_NODES = {"+": 60, "-": 61, "*": 62, "/": 63, "percent": 64}


def read_expr(reader):
    return read_joined(reader, OR, "or", read_and)


def read_and(reader):
    return read_joined(reader, AND, "and", read_not)


def read_joined(reader, kind, word, read_part):
    parts = [read_part(reader)]
    while reader.sees(word):
        reader.step()
        parts.append(read_part(reader))
    return node_of_several(kind, parts)


def node_of_several(kind, parts):
    if len(parts) == 1:
        return parts[0]
    return node(kind, parts[0].place, parts)


def read_not(reader):
    if not reader.sees("not"):
        return read_comp(reader)
    place = reader.step().place
    return node(NOT, place, [read_comp(reader)])


def read_comp(reader):
    left = read_sum(reader)
    if reader.seen().kind not in COMPARISONS:
        return left
    kind = COMPARISONS[reader.step().kind]
    right = read_sum(reader)
    return node(kind, left.place, [left, right])


def read_sum(reader):
    return read_signs(reader, SUM, ("+", "-"), read_prod)


def read_prod(reader):
    return read_signs(reader, PROD, ("*", "/", "percent"), read_signed)


def read_signs(reader, kind, signs, read_part):
    parts = [read_part(reader)]
    while reader.seen().kind in signs:
        sign = reader.step()
        part = read_part(reader)
        parts.append(node(SIGN_NODES[sign.kind], sign.place, [part]))
    return node_of_several(kind, parts)


def read_signed(reader):
    if not reader.sees("-"):
        return read_post(reader)
    place = reader.step().place
    return node(MINUS, place, [read_post(reader)])


def read_post(reader):
    parts = [read_atom(reader)]
    while reader.seen().kind in ("(", "[", "."):
        parts.append(read_behind_atom(reader))
    return node_of_several(POST, parts)


def read_behind_atom(reader):
    if reader.sees("("):
        return read_call(reader)
    if reader.sees("["):
        return read_index(reader)
    place = reader.take(".").place
    return node(DOT, place, [read_name(reader, LABEL)])


def read_name(reader, kind):
    token = reader.take("name")
    return leaf(kind, token.place, token.data)


def read_call(reader):
    place = reader.enter("(").place
    parts = read_row(reader, ")", read_arg)
    reader.leave(")")
    return node(CALL, place, parts)


def read_row(reader, closing, read_part):
    if reader.sees(closing):
        return []
    return read_behind_first(reader, read_part(reader), read_part)


def read_behind_first(reader, first, read_part):
    parts = [first]
    while reader.sees(","):
        reader.step()
        parts.append(read_part(reader))
    return parts


def read_arg(reader):
    if not reader.sees_giving():
        return read_expr(reader)
    label = read_name(reader, LABEL)
    reader.take("=")
    return node(NAMED_ARG, label.place, [label, read_expr(reader)])


def read_index(reader):
    place = reader.enter("[").place
    part = read_expr(reader)
    reader.leave("]")
    return node(INDEX, place, [part])


def read_atom(reader):
    token = reader.seen()
    if token.kind == "(":
        return read_parenthesized(reader)
    if token.kind == "[":
        return read_list(reader)
    if token.kind == "{":
        return read_record(reader)
    if token.kind not in ATOM_LEAVES:
        raise SyntaxFault(token.place)
    reader.step()
    return leaf(ATOM_LEAVES[token.kind], token.place, token.data)


def read_parenthesized(reader):
    reader.enter("(")
    tree = read_expr(reader)
    reader.leave(")")
    return tree


def read_list(reader):
    place = reader.enter("[").place
    parts = []
    if not reader.sees("]"):
        first = read_expr(reader)
        if reader.sees("for"):
            return read_list_for(reader, place, first)
        parts = read_behind_first(reader, first, read_expr)
    reader.leave("]")
    return node(LIST, place, parts)


def read_list_for(reader, place, first):
    reader.take("for")
    name = read_name(reader, NAME)
    reader.take("in")
    parts = [first, name, read_expr(reader)]
    if reader.sees("if"):
        reader.step()
        parts.append(read_expr(reader))
    reader.leave("]")
    return node(LIST_FOR, place, parts)


def read_record(reader):
    place = reader.enter("{").place
    entries = read_row(reader, "}", read_entry)
    reader.leave("}")
    return node(RECORD, place, entries)


def read_entry(reader):
    label = read_name(reader, LABEL)
    reader.take(":")
    return node(ENTRY, label.place, [label, read_expr(reader)])
