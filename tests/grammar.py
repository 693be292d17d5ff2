"""The document's grammar as data, and two things made of it alone: which tokens can go on
behind those read so far, and files drawn at hazard. Nothing of the program is used here."""

import re

GRAMMAR_TEXT = """
    FILE    = { STMT } end
    STMT    = "load" text name { "," name } ";"
            | "def" name "(" [ PARAM { "," PARAM } ] ")" BLOCK
            | "if" EXPR BLOCK [ "else" BLOCK ]
            | "for" name "in" EXPR BLOCK
            | "return" [ EXPR ] ";"
            | name "=" EXPR ";"
            | EXPR ";"
    PARAM   = name [ "=" EXPR ]
    BLOCK   = "{" { STMT } "}"
    EXPR    = AND { "or" AND }
    AND     = NOT { "and" NOT }
    NOT     = [ "not" ] COMP
    COMP    = SUM [ ( "==" | "!=" | "<" | "<=" | "in" ) SUM ]
    SUM     = PROD { ( "+" | "-" ) PROD }
    PROD    = SIGNED { ( "*" | "/" | "%" ) SIGNED }
    SIGNED  = [ "-" ] POST
    POST    = ATOM { "(" [ ARG { "," ARG } ] ")" | "[" EXPR "]" | "." name }
    ARG     = [ name "=" ] EXPR
    ATOM    = number | text | "true" | "false" | "none" | name | "(" EXPR ")" | LIST | RECORD
    LIST    = "[" [ EXPR { "," EXPR } ] "]" | "[" EXPR "for" name "in" EXPR [ "if" EXPR ] "]"
    RECORD  = "{" [ name ":" EXPR { "," name ":" EXPR } ] "}"
"""


MARKS = {"{": "many", "[": "maybe", "(": "one"}


def read_choice(words):
    """What stands between | in a row of words, up to the mark that closes it."""
    choices = [[]]
    while words and words[0] not in ("}", "]", ")"):
        word = words.pop(0)
        if word == "|":
            choices.append([])
        elif word in MARKS:
            choices[-1].append((MARKS[word], read_choice(words)))
            words.pop(0)
        elif word.isupper():
            choices[-1].append(("rule", word))
        else:
            choices[-1].append(("token", word.strip('"')))
    return tuple(tuple(choice) for choice in choices)


def read_grammar():
    rules = {}
    joined = re.sub(r"\n\s*\|", " |", GRAMMAR_TEXT)
    for line in joined.strip().splitlines():
        name, right = line.split("=", 1)
        words = re.findall(r'"[^"]+"|\S+', right)
        rules[name.strip()] = read_choice(words)
        assert not words
    return rules


RULES = read_grammar()


def expanded(stacks):
    """Stacks of what is still to come (item, rest), brought to where a token is on top."""
    ready, seen, work = set(), set(), list(stacks)
    while work:
        stack = work.pop()
        if stack in seen:
            continue
        seen.add(stack)
        (kind, what), rest = stack
        if kind == "token":
            ready.add(stack)
            continue
        if kind in ("many", "maybe"):
            work.append(rest)
        behind = stack if kind == "many" else rest
        for choice in (RULES[what] if kind == "rule" else what):
            pushed = behind
            for item in reversed(choice):
                pushed = (item, pushed)
            work.append(pushed)
    return ready


def first_fault(kinds):
    """For the kinds of tokens, end among them: (0, 0), or 3 for SYNTAX or 4 for DEEP, and which token."""
    stacks = expanded([(("rule", "FILE"), None)])
    depth = 0
    for number, kind in enumerate(kinds):
        going_on = [rest for (item, rest) in stacks if item == ("token", kind)]
        if not going_on:
            return (3, number)
        if kind in ("(", "[", "{"):
            depth += 1
            if depth > 12:
                return (4, number)
        if kind in (")", "]", "}"):
            depth -= 1
        if kind != "end":
            stacks = expanded(going_on)
    return (0, 0)


def drawn(chance, rule, most):
    """The kinds of tokens of one thing that the rule allows; what may be left out is, behind the most-th."""
    kinds = []
    work = [("rule", rule)]
    while work:
        kind, what = work.pop()
        if kind == "token":
            kinds.append(what)
            continue
        is_full = len(kinds) + len(work) >= most
        if is_full and what == "ATOM":
            kinds.append("name")
            continue
        times = 1
        if kind == "maybe":
            times = 0 if is_full else chance.randrange(2)
        if kind == "many":
            times = 0 if is_full else chance.choice([0, 0, 0, 1, 1, 2])
        for time in range(times):
            choice = chance.choice(RULES[what] if kind == "rule" else what)
            work.extend(reversed(choice))
    return kinds
