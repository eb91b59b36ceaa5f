"""Parts: how they are written, and what can be told of one by itself."""


# The layers first to last: a foil or a core if there are no parts in it, else a press.
class Part:
    def __init__(self, first, last, parts):
        self.first = first
        self.last = last
        self.parts = parts


def is_press(part):
    return len(part.parts) > 0


def is_foil(part):
    return part.first == part.last and not is_press(part)


def text_of(part):
    first = part.first
    last = part.last
    if is_press(part):
        inside = " ".join([text_of(inner) for inner in part.parts])
        return f"({inside})"
    if is_foil(part):
        return str(first)
    return f"[{first} {last}]"


# All cores and presses in the order of work: what lies in a press, the first part first, then the press.
def pieces_of(part):
    pieces = []
    for inner in part.parts:
        pieces.extend(pieces_of(inner))
    if not is_foil(part):
        pieces.append(part)
    return pieces


def spans_of(part):
    # Tuples of whole numbers sort by a, then by b: the order of spans.
    return sorted([(piece.first, piece.last) for piece in pieces_of(part)])


def depth_of(part):
    if not is_press(part):
        return 0
    return 1 + max([depth_of(inner) for inner in part.parts])


# The part turned over on a board with these layers.
def mirrored(part, layers):
    parts = [mirrored(inner, layers) for inner in reversed(part.parts)]
    return Part(layers + 1 - part.last, layers + 1 - part.first, parts)
