"""Trees, and the numbers of their kinds."""

QUOTED = 2
NAME = 3
TRUE = 4
FALSE = 5
NONE = 6
LABEL = 7

FILE = 10
LOAD = 11
DEF = 12
PARAMS = 13
PARAM = 14
BLOCK = 15
IF = 16
FOR = 17
RETURN = 18
GIVING = 19
BARE = 20

OR = 30
AND = 31
NOT = 32
SUM = 38
PROD = 40
MINUS = 43
POST = 44
NAMED_ARG = 45
LIST = 48
LIST_FOR = 49
RECORD = 50
ENTRY = 51
REMAINDER = 64
CALL = 65
INDEX = 66
DOT = 67


class Tree:
    def __init__(self, kind, place, data, parts):
        self.kind = kind
        self.place = place
        self.data = data
        self.parts = parts


def leaf(kind, place, data):
    return Tree(kind, place, data, [])


def node(kind, place, parts):
    return Tree(kind, place, [], parts)


def is_leaf(tree):
    return tree.kind <= LABEL
