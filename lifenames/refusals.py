"""The refusals: one error class each, with the number that is answered."""


class Refusal(Exception):
    def __init__(self, number):
        self.number = number


class NotRuleText(Refusal):
    def __init__(self):
        Refusal.__init__(self, -1)


class DigitTooGreat(Refusal):
    def __init__(self):
        Refusal.__init__(self, -2)


class StatesOutOfRange(Refusal):
    def __init__(self):
        Refusal.__init__(self, -3)


class BornOfNothing(Refusal):
    def __init__(self):
        Refusal.__init__(self, -4)


class TooManyCells(Refusal):
    def __init__(self):
        Refusal.__init__(self, -5)


class NotPattern(Refusal):
    def __init__(self):
        Refusal.__init__(self, -6)


class TooMuchWork(Refusal):
    def __init__(self):
        Refusal.__init__(self, -7)


class TooWideToName(Refusal):
    def __init__(self):
        Refusal.__init__(self, -8)


class NumberOutOfRange(Refusal):
    def __init__(self):
        Refusal.__init__(self, -9)


class NotObject(Refusal):
    def __init__(self):
        Refusal.__init__(self, -10)


class FateUnknown(Refusal):
    def __init__(self):
        Refusal.__init__(self, -11)


class Travels(Refusal):
    def __init__(self):
        Refusal.__init__(self, -12)


class NotName(Refusal):
    def __init__(self):
        Refusal.__init__(self, -13)


class CollectionFull(Refusal):
    def __init__(self):
        Refusal.__init__(self, -14)


class NotInCollection(Refusal):
    def __init__(self):
        Refusal.__init__(self, -15)


class NotCall(Refusal):
    def __init__(self):
        Refusal.__init__(self, -100)
