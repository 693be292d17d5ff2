"""Whether two trees are the same but for their places."""


# The row of pairs still to be looked at takes the place of calls within one another.
def are_same(first, second):
    work = [(first, second)]
    while len(work) > 0:
        pair = work.pop()
        if not are_alike(pair[0], pair[1]):
            return False
        for parts in zip(pair[0].parts, pair[1].parts):
            work.append(parts)
    return True


# Two trees without a look into their parts.
def are_alike(first, second):
    if first.kind != second.kind or first.data != second.data:
        return False
    return len(first.parts) == len(second.parts)
