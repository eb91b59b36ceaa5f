"""Reads a text, a list of bytes, as a plan of a board."""

from boardpresses.parts import Part, is_foil, is_press
from boardpresses.refusals import NotAPlan, TooLong, WrongText

MOST_BYTES = 400
DEEPEST = 32

# The bytes that a text is made of, and what stands behind its last one, which no byte is.
BLANK = 32
PRESS_BEGINS = 40
PRESS_ENDS = 41
ZERO = 48
NINE = 57
CORE_BEGINS = 91
CORE_ENDS = 93
TEXT_ENDS = 256


# Goes through a text from its first byte on: place is how many bytes are behind it, numbers are all that it has read.
class Reader:
    def __init__(self, text):
        self.text = text
        self.place = 0
        self.numbers = []

    def byte_here(self):
        return self.text[self.place] if self.place < len(self.text) else TEXT_ENDS

    def take(self, byte):
        if self.byte_here() != byte:
            raise WrongText(self.place)
        self.place += 1

    def read_whole(self):
        part = self.read_part(0)
        if self.byte_here() != TEXT_ENDS:
            raise WrongText(self.place)
        return part

    # A part that stands within so many presses.
    def read_part(self, depth):
        byte = self.byte_here()
        if byte == PRESS_BEGINS:
            return self.read_press(depth)
        if byte == CORE_BEGINS:
            return self.read_core()
        layer = self.read_number()
        return Part(layer, layer, [])

    def read_press(self, depth):
        if depth >= DEEPEST:
            raise WrongText(self.place)
        self.take(PRESS_BEGINS)
        parts = [self.read_part(depth + 1)]
        while self.byte_here() == BLANK:
            self.take(BLANK)
            parts.append(self.read_part(depth + 1))
        self.take(PRESS_ENDS)
        return Part(parts[0].first, parts[-1].last, parts)

    def read_core(self):
        self.take(CORE_BEGINS)
        first = self.read_number()
        self.take(BLANK)
        last = self.read_number()
        self.take(CORE_ENDS)
        return Part(first, last, [])

    def read_number(self):
        if not ZERO < self.byte_here() <= NINE:
            raise WrongText(self.place)
        number = self.read_digit()
        if ZERO <= self.byte_here() <= NINE:
            number = number * 10 + self.read_digit()
        self.numbers.append(number)
        return number

    def read_digit(self):
        digit = self.byte_here() - ZERO
        self.place += 1
        return digit


# Whether each press in a part has two parts or more, and its foils at its ends alone.
def is_sound(part):
    if not is_press(part):
        return True
    foils = [is_foil(inner) for inner in part.parts]
    if len(foils) < 2 or any(foils[1:-1]) or all(foils):
        return False
    return all([is_sound(inner) for inner in part.parts])


def read_plan(text, layers):
    if len(text) > MOST_BYTES:
        raise TooLong()
    reader = Reader(text)
    part = reader.read_whole()
    # Where all layers of the board stand one behind another, the cores are of neighbours, and a foil alone is none.
    if reader.numbers != list(range(1, layers + 1)) or not is_sound(part):
        raise NotAPlan()
    return part
