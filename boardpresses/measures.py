"""What can be reckoned over all ways to press some layers.

Each measure tells the value of a foil or core by itself (single), of a part with the parts behind it (row), of
several ways to choose from (choice), and of a press from the value of what lies in it (press).
"""

DIVISOR = 1000000007


# How many ways there are.
class Count:
    def single(self):
        return 1

    def row(self, part, behind):
        return part * behind

    def choice(self, ways):
        return sum(ways)

    def press(self, inside):
        return inside


# The sum over all ways of a weight for each press, multiplied: its remainder by DIVISOR.
class Weight:
    def __init__(self, weight):
        self.weight = weight

    def single(self):
        return 1

    def row(self, part, behind):
        return part * behind % DIVISOR

    def choice(self, ways):
        return sum(ways) % DIVISOR

    def press(self, inside):
        return inside * self.weight % DIVISOR


# The fewest presses of a way.
class FewestPresses:
    def single(self):
        return 0

    def row(self, part, behind):
        return part + behind

    def choice(self, ways):
        return min(ways)

    def press(self, inside):
        return inside + 1


# The least depth of a way.
class LeastDepth:
    def single(self):
        return 0

    def row(self, part, behind):
        return max(part, behind)

    def choice(self, ways):
        return min(ways)

    def press(self, inside):
        return inside + 1
