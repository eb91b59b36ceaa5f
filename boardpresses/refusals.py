"""The refusals: each one bears the number that a refused call answers."""


class Refusal(Exception):
    def __init__(self, number):
        self.number = number


# A number is out of the range that its call tells.
class OutOfRange(Refusal):
    def __init__(self):
        Refusal.__init__(self, -1)


# The span is needed already or, where it shall be dropped, isn't needed.
class WrongNeed(Refusal):
    def __init__(self):
        Refusal.__init__(self, -2)


# As many spans are needed as a board takes.
class TooManyNeeded(Refusal):
    def __init__(self):
        Refusal.__init__(self, -3)


# No plan serves all needed spans.
class NoPlan(Refusal):
    def __init__(self):
        Refusal.__init__(self, -4)


# There is no plan of that number.
class NoSuchNumber(Refusal):
    def __init__(self):
        Refusal.__init__(self, -5)


# What is read isn't a plan of the board.
class NotAPlan(Refusal):
    def __init__(self):
        Refusal.__init__(self, -6)


# The plan doesn't serve all needed spans.
class NotServing(Refusal):
    def __init__(self):
        Refusal.__init__(self, -7)


# The text has more bytes than are read.
class TooLong(Refusal):
    def __init__(self):
        Refusal.__init__(self, -8)


# The text is wrong at a place.
class WrongText(Refusal):
    def __init__(self, place):
        Refusal.__init__(self, -1000 - place)
