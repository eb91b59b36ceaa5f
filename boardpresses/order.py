"""The order of parts with the same layers: picks one of them by it, and tells the number of one.

A chooser picks a press part by part, the first one first. It tells of each part where it ends (end_of_part), and
then who chooses what lies in that part (chooser_within).
"""

from boardpresses.parts import Part, is_press
from boardpresses.ways import cuts_of, ends_of


# The first with the fewest presses; the ways are measured by FewestPresses.
class FewestPressesChooser:
    def end_of_part(self, ways, ends, first, b):
        # Of several that are least, min takes the one that comes first: the least layer, as the order asks.
        return min(ends, key=lambda last: ways.row(first, last, b))

    def chooser_within(self, ways, last, b):
        # A press has the fewest presses only if each of its parts has.
        return self


# The first with at most that depth; the ways are measured by LeastDepth.
class DepthChooser:
    def __init__(self, most):
        self.most = most

    def end_of_part(self, ways, ends, first, b):
        return min([last for last in ends if ways.row(first, last, b) < self.most])

    def chooser_within(self, ways, last, b):
        # A part may be deeper than it must be, where that brings it to the front and the press gets no deeper.
        return DepthChooser(self.most - 1)


# The one with that number, from 0 on; the ways are measured by Count.
class NumberChooser:
    def __init__(self, number):
        self.number = number

    def end_of_part(self, ways, ends, first, b):
        place = 0
        passed = ways.row(first, ends[place], b)
        while self.number >= passed:
            self.number -= passed
            place += 1
            passed = ways.row(first, ends[place], b)
        return ends[place]

    def chooser_within(self, ways, last, b):
        behind = ways.rows_behind(last, b)
        within = NumberChooser(self.number // behind)
        self.number = self.number % behind
        return within


# The part of the layers a to b that the chooser picks.
def chosen_part(chooser, ways, a, b):
    if b - a < 2:
        return Part(a, b, [])
    cuts = cuts_of(ways.needed, a, b)
    parts = []
    first = a
    while first <= b:
        last = chooser.end_of_part(ways, ends_of(cuts, a, b, first), first, b)
        parts.append(chosen_part(chooser.chooser_within(ways, last, b), ways, first, last))
        first = last + 1
    return Part(a, b, parts)


# How many parts with the same layers stand before this one; the ways are measured by Count.
def number_of(part, ways):
    if not is_press(part):
        return 0
    a = part.first
    b = part.last
    cuts = cuts_of(ways.needed, a, b)
    number = 0
    for inner in part.parts:
        ends = ends_of(cuts, a, b, inner.first)
        number += sum([ways.row(inner.first, last, b) for last in ends if last < inner.last])
        number += number_of(inner, ways) * ways.rows_behind(inner.last, b)
    return number
