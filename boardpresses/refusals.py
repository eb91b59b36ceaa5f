"""The refusals: each one bears the number that a refused call answers."""


class Refusal(Exception):
    def __init__(self, number):
        self.number = number


# A number is out of the range that its call tells.
class OutOfRange(Refusal):
    def __init__(self):
        Refusal.__init__(self, -1)


# The span is needed already or, where it shall be dropped, isn't needed.
class WrongNeed(Refusal):
    def __init__(self):
        Refusal.__init__(self, -2)


# As many spans are needed as a board takes.
class TooManyNeeded(Refusal):
    def __init__(self):
        Refusal.__init__(self, -3)


# No plan serves all needed spans.
class NoPlan(Refusal):
    def __init__(self):
        Refusal.__init__(self, -4)
