"""Reading STMTs and the FILE that they make."""

from buildtext.expressions import read_behind_first, read_expr, read_name, read_row
from buildtext.trees import (
    BARE, BLOCK, DEF, FILE, FOR, GIVING, IF, LOAD, NAME, PARAM, PARAMS, QUOTED,
    RETURN, leaf, node,
)


def read_file(reader):
    stmts = []
    while not reader.sees("end"):
        stmts.append(read_stmt(reader))
    return node(FILE, 0, stmts)


def read_stmt(reader):
    if reader.sees("load"):
        return read_load(reader)
    if reader.sees("def"):
        return read_def(reader)
    if reader.sees("if"):
        return read_if(reader)
    if reader.sees("for"):
        return read_for(reader)
    if reader.sees("return"):
        return read_return(reader)
    if reader.sees_giving():
        return read_giving(reader)
    return read_bare(reader)


def read_load(reader):
    place = reader.take("load").place
    token = reader.take("text")
    quoted = leaf(QUOTED, token.place, token.data)
    names = read_behind_first(reader, read_given_name(reader), read_given_name)
    reader.take(";")
    return node(LOAD, place, [quoted] + names)


def read_given_name(reader):
    return read_name(reader, NAME)


def read_def(reader):
    place = reader.take("def").place
    name = read_given_name(reader)
    params = read_params(reader)
    return node(DEF, place, [name, params, read_block(reader)])


def read_params(reader):
    place = reader.enter("(").place
    params = read_row(reader, ")", read_param)
    reader.leave(")")
    return node(PARAMS, place, params)


def read_param(reader):
    name = read_given_name(reader)
    parts = [name]
    if reader.sees("="):
        reader.step()
        parts.append(read_expr(reader))
    return node(PARAM, name.place, parts)


def read_block(reader):
    place = reader.enter("{").place
    stmts = []
    while not reader.sees("}"):
        stmts.append(read_stmt(reader))
    reader.leave("}")
    return node(BLOCK, place, stmts)


def read_if(reader):
    place = reader.take("if").place
    asked = read_expr(reader)
    parts = [asked, read_block(reader)]
    if reader.sees("else"):
        reader.step()
        parts.append(read_block(reader))
    return node(IF, place, parts)


def read_for(reader):
    place = reader.take("for").place
    name = read_given_name(reader)
    reader.take("in")
    walked = read_expr(reader)
    return node(FOR, place, [name, walked, read_block(reader)])


def read_return(reader):
    place = reader.take("return").place
    parts = []
    if not reader.sees(";"):
        parts.append(read_expr(reader))
    reader.take(";")
    return node(RETURN, place, parts)


def read_giving(reader):
    name = read_given_name(reader)
    reader.take("=")
    worth = read_expr(reader)
    reader.take(";")
    return node(GIVING, name.place, [name, worth])


def read_bare(reader):
    part = read_expr(reader)
    reader.take(";")
    return node(BARE, part.place, [part])
