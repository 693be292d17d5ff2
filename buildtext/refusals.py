"""The refusals, one error class for each: its number without the sign, and the fault's position."""


class Refusal(Exception):
    def __init__(self, number, position):
        self.number = number
        self.position = position


class LongFault(Refusal):
    def __init__(self):
        Refusal.__init__(self, 1, 0)


class TokenFault(Refusal):
    def __init__(self, position):
        Refusal.__init__(self, 2, position)


class SyntaxFault(Refusal):
    def __init__(self, position):
        Refusal.__init__(self, 3, position)


class DeepFault(Refusal):
    def __init__(self, position):
        Refusal.__init__(self, 4, position)


class PlaceFault(Refusal):
    def __init__(self, position):
        Refusal.__init__(self, 5, position)


class TwiceFault(Refusal):
    def __init__(self, position):
        Refusal.__init__(self, 6, position)


class BehindFault(Refusal):
    def __init__(self, position):
        Refusal.__init__(self, 7, position)


class RoomFault(Refusal):
    def __init__(self):
        Refusal.__init__(self, 8, 0)


class NameFault(Refusal):
    def __init__(self):
        Refusal.__init__(self, 9, 0)


class AbsentFault(Refusal):
    def __init__(self):
        Refusal.__init__(self, 10, 0)


class TakenFault(Refusal):
    def __init__(self):
        Refusal.__init__(self, 11, 0)
