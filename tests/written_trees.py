"""Texts written at hazard for a tree, and the numbers that the document asks of it: the place of each leaf and node
is noted while the text is written. Nothing of the program is used here."""

RULES = ["EXPR", "AND", "NOT", "COMP", "SUM", "PROD", "SIGNED", "POST", "ATOM"]
RULE_OF = {30: "EXPR", 31: "AND", 32: "NOT", 38: "SUM", 40: "PROD", 43: "SIGNED", 44: "POST"}
RULE_OF.update({kind: "COMP" for kind in range(33, 38)})
SIGNS = {60: "+", 61: "-", 62: "*", 63: "/", 64: "%", 33: "==", 34: "!=", 35: "<", 36: "<=", 37: "in"}
KEPT_LEAVES = {4: "true", 5: "false", 6: "none"}
BETWEEN = ["", "", "", "", " ", "\n", "\t\r", "# \"(;\n", "  "]
ESCAPES = {34: '\\"', 92: "\\\\", 10: "\\n", 9: "\\t"}


def node(kind, place, parts):
    numbers = [kind, place, len(parts)]
    for part in parts:
        numbers += part
    return numbers


def at_first(kind, parts):
    return node(kind, parts[0][1], parts)


class Writing:
    """A tree's text, and its numbers; most_open is how many brackets were open at once."""
    def __init__(self, chance, tree):
        self.chance = chance
        self.text = ""
        self.now_open = self.most_open = 0
        self.numbers = node(10, 0, [self.stmt(part) for part in tree[1]])
        self.text += chance.choice(BETWEEN + ["#", "# end"])

    def put(self, word):
        """Puts a token behind what may stand between tokens; its position."""
        between = self.chance.choice(BETWEEN)
        if not between and self.text and touches(self.text[-1], word[0]):
            between = " "
        self.text += between
        if word in ("(", "[", "{"):
            self.now_open += 1
            self.most_open = max(self.most_open, self.now_open)
        if word in (")", "]", "}"):
            self.now_open -= 1
        self.text += word
        return len(self.text) - len(word)

    def leaf(self, tree):
        kind, data = tree
        if kind == 2:
            word = '"' + "".join(self.told(byte) for byte in data) + '"'
        else:
            word = KEPT_LEAVES.get(kind) or data.decode("ascii")
        return [kind, self.put(word), len(data)] + list(data)

    def told(self, byte):
        ways = ["\\x%02x" % byte]
        if byte in ESCAPES:
            ways.append(ESCAPES[byte])
        elif 32 <= byte <= 126:
            ways.append(chr(byte))
        return self.chance.choice(ways)

    def row(self, trees, write):
        """What write gives for each, with commas between."""
        written = []
        for number, tree in enumerate(trees):
            if number:
                self.put(",")
            written.append(write(tree))
        return written

    def stmt(self, tree):
        kind, parts = tree
        if kind == 12:
            place = self.put("def")
            return node(12, place, [self.leaf(parts[0]), self.params(parts[1]), self.block(parts[2])])
        if kind == 16:
            place = self.put("if")
            written = [self.expr(parts[0]), self.block(parts[1])]
            if len(parts) == 3:
                self.put("else")
                written.append(self.block(parts[2]))
            return node(16, place, written)
        if kind == 17:
            place = self.put("for")
            name = self.leaf(parts[0])
            self.put("in")
            return node(17, place, [name, self.expr(parts[1]), self.block(parts[2])])
        return self.closed_stmt(kind, parts)

    def closed_stmt(self, kind, parts):
        if kind == 11:
            place = self.put("load")
            written = node(11, place, [self.leaf(parts[0])] + self.row(parts[1:], self.leaf))
        elif kind == 18:
            place = self.put("return")
            written = node(18, place, [self.expr(part) for part in parts])
        elif kind == 19:
            written = self.pair(19, parts, "=")
        else:
            written = at_first(20, [self.expr(parts[0])])
        self.put(";")
        return written

    def pair(self, kind, parts, sign):
        name = self.leaf(parts[0])
        self.put(sign)
        return at_first(kind, [name, self.expr(parts[1])])

    def params(self, tree):
        place = self.put("(")
        written = self.row(tree[1], self.param)
        self.put(")")
        return node(13, place, written)

    def param(self, tree):
        if len(tree[1]) == 2:
            return self.pair(14, tree[1], "=")
        return at_first(14, [self.leaf(tree[1][0])])

    def block(self, tree):
        place = self.put("{")
        written = [self.stmt(part) for part in tree[1]]
        self.put("}")
        return node(15, place, written)

    def expr(self, tree, asked="EXPR"):
        own = RULE_OF.get(tree[0], "ATOM")
        is_needed = RULES.index(own) < RULES.index(asked)
        if is_needed or self.now_open < 6 and self.chance.random() < 0.1:
            self.put("(")
            written = self.expr(tree)
            self.put(")")
            return written
        if tree[0] < 10:
            return self.leaf(tree)
        if own == "ATOM":
            return self.bracketed(tree[0], tree[1])
        return self.joined(tree[0], tree[1])

    def joined(self, kind, parts):
        if kind in (30, 31):
            written = [self.expr(parts[0], "AND" if kind == 30 else "NOT")]
            for part in parts[1:]:
                self.put("or" if kind == 30 else "and")
                written.append(self.expr(part, "AND" if kind == 30 else "NOT"))
            return at_first(kind, written)
        if kind in (32, 43):
            place = self.put("not" if kind == 32 else "-")
            return node(kind, place, [self.expr(parts[0], "COMP" if kind == 32 else "POST")])
        if 33 <= kind <= 37:
            left = self.expr(parts[0], "SUM")
            self.put(SIGNS[kind])
            return at_first(kind, [left, self.expr(parts[1], "SUM")])
        if kind in (38, 40):
            asked = "PROD" if kind == 38 else "SIGNED"
            return at_first(kind, [self.expr(parts[0], asked)] + [self.signed(part, asked) for part in parts[1:]])
        return at_first(44, [self.expr(parts[0], "ATOM")] + [self.behind_atom(part) for part in parts[1:]])

    def signed(self, tree, asked):
        place = self.put(SIGNS[tree[0]])
        return node(tree[0], place, [self.expr(tree[1][0], asked)])

    def behind_atom(self, tree):
        kind, parts = tree
        place = self.put({65: "(", 66: "[", 67: "."}[kind])
        if kind == 67:
            return node(67, place, [self.leaf(parts[0])])
        written = self.row(parts, self.arg)
        self.put(")" if kind == 65 else "]")
        return node(kind, place, written)

    def arg(self, tree):
        return self.pair(45, tree[1], "=") if tree[0] == 45 else self.expr(tree)

    def bracketed(self, kind, parts):
        place = self.put("{" if kind == 50 else "[")
        if kind == 50:
            written = self.row(parts, lambda entry: self.pair(51, entry[1], ":"))
        elif kind == 48:
            written = self.row(parts, self.expr)
        else:
            written = self.list_for(parts)
        self.put("}" if kind == 50 else "]")
        return node(kind, place, written)

    def list_for(self, parts):
        written = [self.expr(parts[0])]
        self.put("for")
        written.append(self.leaf(parts[1]))
        self.put("in")
        written.append(self.expr(parts[2]))
        if len(parts) == 4:
            self.put("if")
            written.append(self.expr(parts[3]))
        return written


def touches(last, first):
    """Whether two signs would be cut as parts of one token."""
    is_word = last.isalnum() or last == "_"
    return is_word and (first.isalnum() or first == "_") or last in "=<" and first == "="
