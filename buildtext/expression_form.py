"""The plain form of EXPRs, and of STMTs without a BLOCK that are a row of parts."""

from buildtext.codes import BACKSLASH, LETTER_X, QUOTE, codes_of
from buildtext.trees import FALSE, LIST_FOR, NONE, QUOTED, REMAINDER, TRUE, is_leaf

HEX_DIGITS = "0123456789abcdef"
ESCAPED = {34: 34, 92: 92, 10: 110, 9: 116}

RULES = ("EXPR", "AND", "NOT", "COMP", "SUM", "PROD", "SIGNED", "POST", "ATOM")

# The rule of a node by its kind. The others are ATOMs, or stand where no ( ) may be put.
OWN_RULES = {
    30: "EXPR", 31: "AND", 32: "NOT", 33: "COMP", 34: "COMP", 35: "COMP", 36: "COMP",
    37: "COMP", 38: "SUM", 40: "PROD", 43: "SIGNED", 44: "POST",
}

# By a node's kind: what stands ahead of its parts, between them and behind them, and the rule asked of a part.
FORMS = {
    13: ("(", ", ", ")", "EXPR"),
    14: ("", " = ", "", "EXPR"),
    19: ("", " = ", ";", "EXPR"),
    20: ("", "", ";", "EXPR"),
    30: ("", " or ", "", "AND"),
    31: ("", " and ", "", "NOT"),
    32: ("not ", "", "", "COMP"),
    33: ("", " == ", "", "SUM"),
    34: ("", " != ", "", "SUM"),
    35: ("", " < ", "", "SUM"),
    36: ("", " <= ", "", "SUM"),
    37: ("", " in ", "", "SUM"),
    38: ("", "", "", "PROD"),
    40: ("", "", "", "SIGNED"),
    43: ("-", "", "", "POST"),
    44: ("", "", "", "ATOM"),
    45: ("", " = ", "", "EXPR"),
    48: ("[", ", ", "]", "EXPR"),
    50: ("{", ", ", "}", "EXPR"),
    51: ("", ": ", "", "EXPR"),
    60: (" + ", "", "", "PROD"),
    61: (" - ", "", "", "PROD"),
    62: (" * ", "", "", "SIGNED"),
    63: (" / ", "", "", "SIGNED"),
    64: ("", "", "", "SIGNED"),
    65: ("(", ", ", ")", "EXPR"),
    66: ("[", "", "]", "EXPR"),
    67: (".", "", "", "EXPR"),
}


# A piece is a list of bytes, or a tree and the rule asked at its place. The row of
# pieces still to be told takes the place of calls within one another.
def put_tree(out, tree):
    work = [(tree, "EXPR")]
    while len(work) > 0:
        piece = work.pop()
        if isinstance(piece, list):
            out.extend(piece)
        else:
            for inner in reversed(pieces_of(piece[0], piece[1])):
                work.append(inner)


def pieces_of(tree, asked):
    if RULES.index(OWN_RULES.get(tree.kind, "ATOM")) < RULES.index(asked):
        return [codes_of("("), (tree, "EXPR"), codes_of(")")]
    if is_leaf(tree):
        return [leaf_form(tree)]
    if tree.kind == LIST_FOR:
        return list_for_pieces(tree)
    return row_pieces(tree)


def leaf_form(tree):
    if tree.kind == QUOTED:
        return quoted_form(tree.data)
    if tree.kind == TRUE:
        return codes_of("true")
    if tree.kind == FALSE:
        return codes_of("false")
    if tree.kind == NONE:
        return codes_of("none")
    return tree.data


def quoted_form(data):
    out = [QUOTE]
    for byte in data:
        out.extend(told_form(byte))
    out.append(QUOTE)
    return out


def told_form(byte):
    if byte in ESCAPED:
        return [BACKSLASH, ESCAPED[byte]]
    if 32 <= byte <= 126:
        return [byte]
    return [BACKSLASH, LETTER_X] + codes_of(HEX_DIGITS[byte // 16] + HEX_DIGITS[byte % 16])


def list_for_pieces(tree):
    pieces = [codes_of("["), (tree.parts[0], "EXPR")]
    pieces.extend([codes_of(" for "), (tree.parts[1], "EXPR")])
    pieces.extend([codes_of(" in "), (tree.parts[2], "EXPR")])
    if len(tree.parts) == 4:
        pieces.extend([codes_of(" if "), (tree.parts[3], "EXPR")])
    pieces.append(codes_of("]"))
    return pieces


def row_pieces(tree):
    form = FORMS[tree.kind]
    pieces = [opening_of(tree.kind)]
    for count, part in enumerate(tree.parts):
        if count > 0:
            pieces.append(codes_of(form[1]))
        pieces.append((part, form[3]))
    pieces.append(codes_of(form[2]))
    return pieces


# The sign of a remainder may not stand in a text of this program: it is told by its byte.
def opening_of(kind):
    if kind == REMAINDER:
        return [32, 37, 32]
    return codes_of(FORMS[kind][0])
