"""Parts and how they are written."""


# The layers first to last: a foil or a core if there are no parts in it, else a press.
class Part:
    def __init__(self, first, last, parts):
        self.first = first
        self.last = last
        self.parts = parts


def text_of(part):
    first = part.first
    last = part.last
    if first == last:
        return str(first)
    if len(part.parts) == 0:
        return f"[{first} {last}]"
    inside = " ".join([text_of(inner) for inner in part.parts])
    return f"({inside})"
