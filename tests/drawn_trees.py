"""Trees drawn at hazard, and trees that differ from them in one thing. Nothing of the program is used here.

A leaf is its kind and its bytes, a node its kind and its parts, both as tuples. A tree that's drawn can be
read; one that differs from it may have a fault."""

NAMES = ["a", "b", "cc", "_", "Z9", "orange", "in_", "x" * 32]

# Kinds that may stand for one another; how many parts a kind has at least, where it may have more; the kinds
# whose last part may stand once more; those whose parts may stand in any order.
ALIKE = [(30, 31), (33, 34, 35, 36, 37), (60, 61), (62, 63, 64), (4, 5, 6)]
LEAST = {10: 0, 11: 2, 13: 0, 14: 1, 15: 0, 16: 2, 18: 0, 30: 2, 31: 2, 38: 2, 40: 2, 44: 2, 48: 0, 49: 3, 50: 0, 65: 0}
DOUBLED = (10, 15, 30, 31, 38, 40, 44, 48, 65)
IN_ANY_ORDER = (10, 13, 15, 30, 31, 48, 50, 65)


class Drawing:
    """Names at file level are like no others; where most is told, up to so many of them are like others."""
    def __init__(self, chance, most=0):
        self.chance = chance
        self.given = 0
        self.most_stmts = 4 + most
        self.left = chance.sample(NAMES, most)

    def new_name(self):
        if self.left and self.chance.random() < 0.8:
            return (3, self.left.pop().encode())
        self.given += 1
        return (3, b"g%d" % self.given)

    def name(self):
        return (3, self.chance.choice(NAMES).encode())

    def labels(self, most):
        names = self.chance.sample(NAMES, self.chance.randrange(most + 1))
        return [(7, name.encode()) for name in names]

    def file(self):
        return (10, tuple(self.stmt(2, False, False) for time in range(self.chance.randrange(self.most_stmts + 1))))

    def stmt(self, depth, in_block, in_def):
        kinds = [20, 20]
        if depth > 0:
            kinds += [16, 17]
        if not in_block:
            kinds += [11, 12, 12, 19]
        if in_def:
            kinds += [18, 19]
        kind = self.chance.choice(kinds)
        if kind == 11:
            names = [self.new_name() for time in range(self.chance.randrange(1, 4))]
            return (11, (self.quoted(),) + tuple(names))
        if kind == 12:
            return (12, (self.new_name(), self.params(), self.block(depth, True)))
        if kind == 16:
            blocks = [self.block(depth - 1, in_def) for time in range(self.chance.randrange(1, 3))]
            return (16, (self.expr(2),) + tuple(blocks))
        if kind == 17:
            return (17, (self.name(), self.expr(2), self.block(depth - 1, in_def)))
        if kind == 18:
            return (18, tuple(self.expr(2) for time in range(self.chance.randrange(2))))
        if kind == 19:
            return (19, (self.name() if in_block else self.new_name(), self.expr(2)))
        return (20, (self.expr(3),))

    def params(self):
        names = [(3, label[1]) for label in self.labels(4)]
        first_given = self.chance.randrange(len(names) + 1)
        params = []
        for number, name in enumerate(names):
            params.append((14, (name,) if number < first_given else (name, self.expr(1))))
        return (13, tuple(params))

    def block(self, depth, in_def):
        return (15, tuple(self.stmt(depth, True, in_def) for time in range(self.chance.randrange(3))))

    def quoted(self):
        return (2, bytes(self.chance.choice([0, 9, 10, 13, 32, 34, 35, 65, 92, 110, 126, 127, 255])
                         for time in range(self.chance.randrange(4))))

    def leaf(self):
        kind = self.chance.choice([1, 2, 3, 3, 3, 4, 5, 6])
        if kind == 1:
            return (1, self.chance.choice([b"0", b"7", b"120", b"1" + b"0" * 18]))
        if kind == 2:
            return self.quoted()
        return self.name() if kind == 3 else (kind, b"")

    def expr(self, depth):
        if depth == 0:
            return self.leaf()
        kind = self.chance.choice([0, 30, 31, 32, 33, 34, 35, 36, 37, 38, 38, 40, 40, 43, 44, 44, 44, 48, 49, 50])
        if kind == 0:
            return self.leaf()
        if kind in (32, 43):
            return (kind, (self.expr(depth - 1),))
        if 33 <= kind <= 37:
            return (kind, (self.expr(depth - 1), self.expr(depth - 1)))
        if kind in (38, 40):
            signs = [60, 61] if kind == 38 else [62, 63, 64]
            others = [(self.chance.choice(signs), (self.expr(depth - 1),)) for time in range(self.chance.randrange(1, 4))]
            return (kind, (self.expr(depth - 1),) + tuple(others))
        if kind == 44:
            behind = [self.behind_atom(depth) for time in range(self.chance.randrange(1, 4))]
            return (44, (self.expr(depth - 1),) + tuple(behind))
        if kind == 49:
            parts = [self.expr(depth - 1), self.name(), self.expr(depth - 1)]
            return (49, tuple(parts + [self.expr(depth - 1)] * self.chance.randrange(2)))
        if kind == 50:
            return (50, tuple((51, (label, self.expr(depth - 1))) for label in self.labels(3)))
        least = 0 if kind == 48 else 2
        return (kind, tuple(self.expr(depth - 1) for time in range(self.chance.randrange(least, 4))))

    def behind_atom(self, depth):
        kind = self.chance.choice([65, 66, 67])
        if kind == 67:
            return (67, ((7, self.chance.choice(NAMES).encode()),))
        if kind == 66:
            return (66, (self.expr(depth - 1),))
        args = [self.expr(depth - 1) for time in range(self.chance.randrange(3))]
        args += [(45, (label, self.expr(depth - 1))) for label in self.labels(2)]
        return (65, tuple(args))


def paths_in(tree, path=()):
    found = [path]
    if tree[0] >= 10:
        for number, part in enumerate(tree[1]):
            found += paths_in(part, path + (number,))
    return found


def changed_at(tree, path, change):
    if not path:
        return change(tree)
    parts = list(tree[1])
    parts[path[0]] = changed_at(parts[path[0]], path[1:], change)
    return (tree[0], tuple(parts))


def changed(chance, tree):
    """A tree that differs from this one in a kind, a byte, the number of parts or their order; or the tree itself."""
    def change(entry):
        kind, held = entry
        ways = [(other, held) for group in ALIKE if kind in group for other in group if other != kind]
        if kind in (2, 3, 7):
            ways += [(kind, held[:-1] + b"q"), (kind, held + b"q"), (kind, held[:-1] or b"q")]
        if kind == 1:
            ways += [(kind, b"1" + held[1:]), (kind, b"1" + held[:2])]
        if kind in LEAST and len(held) > LEAST[kind]:
            ways.append((kind, held[:-1]))
        if kind in DOUBLED:
            ways.append((kind, held + held[-1:]))
        if kind in IN_ANY_ORDER:
            ways.append((kind, tuple(reversed(held))))
        return chance.choice(ways) if ways else entry
    return changed_at(tree, chance.choice(paths_in(tree)), change)
