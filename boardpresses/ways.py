"""All ways to press the layers of a board, gone through once for a measure."""


# The layers behind which a press of the layers a to b may end a part.
def cuts_of(needed, a, b):
    closed = {}
    for c, d in needed:
        # The press itself serves its own span; a lesser one must lie within one of its parts.
        if a <= c and d <= b and (c, d) != (a, b):
            for layer in range(c, d):
                closed[layer] = True
    return [layer for layer in range(a, b) if layer not in closed]


# Where the part that begins at a layer of the press a b may end, the least layer first.
def ends_of(cuts, a, b, first):
    if first == a:
        # The first part may be a foil, but it can't have all the layers of the press.
        return list(cuts)
    # A later part can be a foil in the last place alone, and there it ends at b.
    return [cut for cut in cuts if cut > first] + [b]


# The values of a measure for the layers a to b.
# whole[(a, b)] is that of all parts with these layers, rest[(a, b)] that of all rows of parts which may stand
# behind a press's first part and have these layers. Both take the ways alone that serve the needed spans in them.
class Ways:
    def __init__(self, measure, board):
        self.measure = measure
        self.needed = board.needed
        self.whole = {}
        self.rest = {}
        for size in range(1, board.layers + 1):
            for a in range(1, board.layers - size + 2):
                self.fill(a, a + size - 1)

    def fill(self, a, b):
        if b - a < 2:
            self.whole[(a, b)] = self.measure.single()
            self.rest[(a, b)] = self.measure.single()
            return
        cuts = cuts_of(self.needed, a, b)
        rows = [self.row(a, cut, b) for cut in cuts]
        self.whole[(a, b)] = self.measure.press(self.measure.choice(rows))
        behind = [self.whole[(a, b)]]
        if (a, b) not in self.needed:
            # Behind a first part no foil stands but the last one, so a row doesn't begin with one here.
            behind.extend([row for cut, row in zip(cuts, rows) if cut > a])
        self.rest[(a, b)] = self.measure.choice(behind)

    # The value of a part with the layers first to last and, behind it, of all that reaches to b.
    def row(self, first, last, b):
        return self.measure.row(self.whole[(first, last)], self.rows_behind(last, b))

    # The value of all rows that may stand behind a part which ends at last, in a press which ends at b.
    def rows_behind(self, last, b):
        if last == b:
            # Nothing stands behind the last part, and that weighs no more than a foil.
            return self.measure.single()
        return self.rest[(last + 1, b)]
