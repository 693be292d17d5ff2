"""The plain form of a FILE, line by line. Calls nest with the BLOCKs alone."""

from buildtext.codes import codes_of
from buildtext.expression_form import put_tree
from buildtext.trees import DEF, FOR, IF, LOAD, RETURN


def plain_form(file_tree):
    out = []
    put_stmts(out, file_tree.parts, 0)
    return out


def put_stmts(out, stmts, depth):
    for stmt in stmts:
        put_indent(out, depth)
        put_stmt(out, stmt, depth)
        put(out, "\n")


def put_indent(out, depth):
    put(out, "  " * depth)


def put(out, words):
    out.extend(codes_of(words))


def put_stmt(out, stmt, depth):
    if stmt.kind == LOAD:
        put_load(out, stmt)
    elif stmt.kind == DEF:
        put_def(out, stmt, depth)
    elif stmt.kind == IF:
        put_if(out, stmt, depth)
    elif stmt.kind == FOR:
        put_for(out, stmt, depth)
    elif stmt.kind == RETURN:
        put_return(out, stmt)
    else:
        put_tree(out, stmt)


def put_load(out, stmt):
    put(out, "load ")
    put_tree(out, stmt.parts[0])
    between = " "
    for name in stmt.parts[1:]:
        put(out, between)
        put_tree(out, name)
        between = ", "
    put(out, ";")


def put_def(out, stmt, depth):
    put(out, "def ")
    put_tree(out, stmt.parts[0])
    put_tree(out, stmt.parts[1])
    put_block(out, stmt.parts[2], depth)


def put_block(out, block, depth):
    put(out, " {\n")
    put_stmts(out, block.parts, depth + 1)
    put_indent(out, depth)
    put(out, "}")


def put_if(out, stmt, depth):
    put(out, "if ")
    put_tree(out, stmt.parts[0])
    put_block(out, stmt.parts[1], depth)
    if len(stmt.parts) == 3:
        put(out, " else")
        put_block(out, stmt.parts[2], depth)


def put_for(out, stmt, depth):
    put(out, "for ")
    put_tree(out, stmt.parts[0])
    put(out, " in ")
    put_tree(out, stmt.parts[1])
    put_block(out, stmt.parts[2], depth)


def put_return(out, stmt):
    put(out, "return")
    if len(stmt.parts) == 1:
        put(out, " ")
        put_tree(out, stmt.parts[0])
    put(out, ";")
