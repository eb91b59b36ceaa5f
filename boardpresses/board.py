"""A board: its layers and the spans that are needed."""

from boardpresses.refusals import OutOfRange, TooManyNeeded, WrongNeed

FIRST_LAYERS = 4
FEWEST_LAYERS = 2
MOST_LAYERS = 24
MOST_NEEDED = 12


def clashes(span, other):
    return span[0] < other[0] <= span[1] < other[1]


class Board:
    def __init__(self):
        self.layers = FIRST_LAYERS
        self.needed = []

    def begin(self, layers):
        if not FEWEST_LAYERS <= layers <= MOST_LAYERS:
            raise OutOfRange()
        self.layers = layers
        self.needed = []

    def need(self, a, b):
        self.check_span(a, b)
        if (a, b) in self.needed:
            raise WrongNeed()
        if len(self.needed) >= MOST_NEEDED:
            raise TooManyNeeded()
        # Tuples of whole numbers sort by a, then by b: the order of spans.
        self.needed = sorted(self.needed + [(a, b)])

    def drop(self, a, b):
        self.check_span(a, b)
        if (a, b) not in self.needed:
            raise WrongNeed()
        self.needed = [span for span in self.needed if span != (a, b)]

    def turn(self):
        over = self.layers + 1
        self.needed = sorted([(over - b, over - a) for a, b in self.needed])

    def check_span(self, a, b):
        if not 1 <= a < b <= self.layers:
            raise OutOfRange()

    # The four layers of the first two needed spans that clash, or an empty list.
    def first_clash(self):
        for span in self.needed:
            for other in self.needed:
                if clashes(span, other):
                    return list(span + other)
        return []
