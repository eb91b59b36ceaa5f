"""A plain listing of all plans, and a way to put calls and take their answers apart.

A part is a tuple: (layer,) for a foil, (a, a + 1) for a core, ("press", part, part ..) for a press.
"""

import re
from functools import lru_cache

from boardpresses.desk import answers

BEGIN, NEED, DROP, NEEDS, CLASH, COUNT, WEIGH, LEAST, DEPTH, BEST = range(10)
FLAT, PLAN, RANK, NEXT, CHECK, SPANS, MIRROR, STEPS, TURN = range(10, 19)
# The calls that read a text.
READING = (RANK, NEXT, CHECK, SPANS, MIRROR, STEPS)
# The most calls in one list.
MOST_CALLS = 100

# Twelve spans on 24 layers: side by side, within one another, at both ends, and in a long row of steps.
LARGE = (
    tuple((2 * k - 1, 2 * k) for k in range(1, 13)),
    tuple((13 - k, 12 + k) for k in range(1, 13)),
    tuple((1, b) for b in range(13, 25)),
    tuple((a, 24) for a in range(1, 13)),
    ((1, 2), (4, 5), (7, 8), (10, 11), (13, 14), (16, 17), (19, 20), (22, 23), (1, 8), (10, 17), (1, 23), (19, 23)),
    ((2, 3), (2, 4), (6, 9), (7, 9), (11, 20), (12, 19), (13, 14), (16, 18), (22, 24)),
    (),
)


def ask(*calls):
    """Put the calls, each a tuple, as one list and give back one list of numbers for each call."""
    told = answers([number for call in calls for number in call])
    taken = []
    place = 0
    while place < len(told):
        end = place + 1 + told[place]
        taken.append(told[place + 1:end])
        place = end
    assert place == len(told) and len(taken) == len(calls)
    return taken


def ask_board(layers, needed, *calls):
    """The answers to calls on a board with these layers and needed spans."""
    ahead = [(BEGIN, layers)] + [(NEED, a, b) for a, b in needed]
    return ask(*ahead, *calls)[len(ahead):]


def ask_many(layers, needed, calls):
    """The answers to any number of calls on such a board, asked in as many lists as it takes."""
    told = []
    room = MOST_CALLS - 1 - len(needed)
    for place in range(0, len(calls), room):
        told.extend(ask_board(layers, needed, *calls[place:place + room]))
    return told


def reading(number, text):
    """A call with a text, which is given as a text or as bytes."""
    data = text.encode("ascii") if isinstance(text, str) else bytes(text)
    return (number, len(data), *data)


def bytes_answer(text):
    """What answers a text."""
    return [len(text)] + list(text.encode("ascii"))


def text_in(answer):
    """The text that is answered as its length and its bytes."""
    assert answer[0] == len(answer) - 1
    return bytes(answer[1:]).decode("ascii")


def blocks(a, b):
    """All ways to lay the layers a to b out in blocks, one behind the other."""
    if a > b:
        return [[]]
    return [[(a, e)] + more for e in range(a, b + 1) for more in blocks(e + 1, b)]


def is_press(row):
    foils = [c == d for c, d in row]
    return len(row) >= 2 and not any(foils[1:-1]) and not all(foils)


@lru_cache(maxsize=None)
def parts_of(a, b):
    """All parts with the layers a to b, in the order in which they are found."""
    if a == b:
        return [(a,)]
    if a + 1 == b:
        return [(a, b)]
    found = []
    for row in blocks(a, b):
        if is_press(row):
            rows = [("press",)]
            for c, d in row:
                rows = [some + (part,) for some in rows for part in parts_of(c, d)]
            found.extend(rows)
    return found


def is_pressed(part):
    return part[0] == "press"


def first_layer(part):
    return first_layer(part[1]) if is_pressed(part) else part[0]


def last_layer(part):
    return last_layer(part[-1]) if is_pressed(part) else part[-1]


def order(part):
    """What sorts parts of the same layers as the order of plans says."""
    return tuple((last_layer(inner), order(inner)) for inner in part[1:]) if is_pressed(part) else ()


def spans(part):
    if not is_pressed(part):
        return {part} if len(part) == 2 else set()
    found = {(first_layer(part), last_layer(part))}
    for inner in part[1:]:
        found |= spans(inner)
    return found


def presses(part):
    return 1 + sum(presses(inner) for inner in part[1:]) if is_pressed(part) else 0


def depth(part):
    return 1 + max(depth(inner) for inner in part[1:]) if is_pressed(part) else 0


def text(part):
    if is_pressed(part):
        return "(" + " ".join(text(inner) for inner in part[1:]) + ")"
    return str(part[0]) if len(part) == 1 else "[%d %d]" % part


def cores(part):
    return sum(cores(inner) for inner in part[1:]) if is_pressed(part) else len(part) - 1


def turned_over(part, layers):
    if is_pressed(part):
        return ("press",) + tuple(turned_over(inner, layers) for inner in part[:0:-1])
    return tuple(layers + 1 - layer for layer in part[::-1])


def work(part):
    """The cores and presses in the order of work, each as 0 or 1 and its span."""
    if not is_pressed(part):
        return [(0, *part)] if len(part) == 2 else []
    done = [step for inner in part[1:] for step in work(inner)]
    return done + [(1, first_layer(part), last_layer(part))]


def parse(written):
    """The part that a text without faults tells."""
    rows = [[]]
    for token in re.findall(r"\[\d+ \d+\]|\d+|[()]", written):
        if token == "(":
            rows.append(["press"])
        elif token == ")":
            closed = tuple(rows.pop())
            rows[-1].append(closed)
        else:
            rows[-1].append(tuple(int(layer) for layer in re.findall(r"\d+", token)))
    return rows[0][0]


@lru_cache(maxsize=None)
def all_plans(layers):
    """All plans of a board in order, each with its spans, presses, depth, text, and the part itself."""
    plans = sorted(parts_of(1, layers), key=order)
    return [(spans(plan), presses(plan), depth(plan), text(plan), plan) for plan in plans]


def plans_that_serve(layers, needed):
    wanted = set(needed)
    return [plan for plan in all_plans(layers) if wanted <= plan[0]]


def all_spans(layers):
    return [(a, b) for a in range(1, layers) for b in range(a + 1, layers + 1)]


def turned_spans(needed, layers):
    """The needed spans turned over, in order."""
    return sorted((layers + 1 - b, layers + 1 - a) for a, b in needed)


def slow_value(layers, needed, weight, deepest=24):
    """The sum of weight to the power of presses over all plans at most that deep, where they are too many to list."""
    memo = {}

    def cut_is_free(a, b, e):
        return not any(a <= c <= e < d <= b and (c, d) != (a, b) for c, d in needed)

    def rows(a, b, i, limit):
        """All rows of parts from layer i to the end of the press a b."""
        key = (a, b, i, limit)
        if key not in memo:
            total = 0
            for e in range(i, b + 1):
                foil_inside = e == i and i not in (a, b)
                whole_press = i == a and e == b
                if not foil_inside and not whole_press and (e == b or cut_is_free(a, b, e)):
                    total += value(i, e, limit) * (1 if e == b else rows(a, b, e + 1, limit))
            memo[key] = total
        return memo[key]

    def value(a, b, limit):
        if b - a < 2:
            return 1
        # Where the depth is no bound, one limit for all keeps the listing short.
        inner = limit if deepest == 24 else limit - 1
        return weight * rows(a, b, a, inner) if limit > 0 else 0

    return value(1, layers, deepest)


def slow_fewest(layers, needed):
    """The fewest presses: the lowest power in the sum for a weight that is beyond any number of plans."""
    weight = 2 ** 200
    total = slow_value(layers, needed, weight)
    power = 0
    while total % weight == 0:
        total //= weight
        power += 1
    return power


def slow_flat(layers, needed):
    """The first plan of the least depth: the depths are tried from 0 on, and for each one all parts in order."""
    memo = {}

    def first_row(a, b, i, limit):
        """The first row of parts, none deeper than the limit, from layer i to the end of the press a b."""
        if i > b:
            return ()
        key = (a, b, i, limit)
        if key not in memo:
            ends = [e for e in range(i, b + 1) if (i, e) != (a, b) and (e > i or i in (a, b))]
            free = [e for e in ends if not any(a <= c <= e < d <= b and (c, d) != (a, b) for c, d in needed)]
            memo[key] = None
            for e in free:
                part = first_part(i, e, limit)
                behind = first_row(a, b, e + 1, limit) if part else None
                if behind is not None:
                    memo[key] = (part,) + behind
                    break
        return memo[key]

    def first_part(a, b, limit):
        if b - a < 2:
            return tuple(range(a, b + 1))
        row = first_row(a, b, a, limit - 1) if limit > 0 else None
        return None if row is None else ("press",) + row

    found = None
    limit = 0
    while found is None and limit < layers:
        found = first_part(1, layers, limit)
        limit += 1
    return found
