"""A reader goes through tokens from the left and counts the brackets around it."""

from buildtext.refusals import DeepFault, SyntaxFault

MOST_BRACKETS = 12


class Reader:
    def __init__(self, tokens):
        self.tokens = tokens
        self.at = 0
        self.depth = 0

    def seen(self):
        return self.tokens[self.at]

    def sees(self, kind):
        return self.tokens[self.at].kind == kind

    # The token end is the last one and no name, so behind a name there is a token.
    def sees_giving(self):
        return self.sees("name") and self.tokens[self.at + 1].kind == "="

    def step(self):
        token = self.tokens[self.at]
        self.at += 1
        return token

    def take(self, kind):
        if not self.sees(kind):
            raise SyntaxFault(self.seen().place)
        return self.step()

    # The bracket is asked for first: one that can't stand here is no matter of depth.
    def enter(self, bracket):
        token = self.take(bracket)
        if self.depth == MOST_BRACKETS:
            raise DeepFault(token.place)
        self.depth += 1
        return token

    def leave(self, bracket):
        self.take(bracket)
        self.depth -= 1
