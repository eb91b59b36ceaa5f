"""A plain listing of all plans, and a way to put calls and take their answers apart.

A part is a tuple: (layer,) for a foil, (a, a + 1) for a core, ("press", part, part ..) for a press.
"""

from functools import lru_cache

from boardpresses.desk import answers

BEGIN, NEED, DROP, NEEDS, CLASH, COUNT, WEIGH, LEAST, DEPTH, BEST = range(10)


def ask(*calls):
    """Put the calls, each a tuple, as one list and give back one list of numbers for each call."""
    told = answers([number for call in calls for number in call])
    taken = []
    place = 0
    while place < len(told):
        end = place + 1 + told[place]
        taken.append(told[place + 1:end])
        place = end
    assert place == len(told) and len(taken) == len(calls)
    return taken


def ask_board(layers, needed, *calls):
    """The answers to calls on a board with these layers and needed spans."""
    ahead = [(BEGIN, layers)] + [(NEED, a, b) for a, b in needed]
    return ask(*ahead, *calls)[len(ahead):]


def text_in(answer):
    """The text that is answered as its length and its bytes."""
    assert answer[0] == len(answer) - 1
    return bytes(answer[1:]).decode("ascii")


def blocks(a, b):
    """All ways to lay the layers a to b out in blocks, one behind the other."""
    if a > b:
        return [[]]
    return [[(a, e)] + more for e in range(a, b + 1) for more in blocks(e + 1, b)]


def is_press(row):
    foils = [c == d for c, d in row]
    return len(row) >= 2 and not any(foils[1:-1]) and not all(foils)


@lru_cache(maxsize=None)
def parts_of(a, b):
    """All parts with the layers a to b, in the order in which they are found."""
    if a == b:
        return [(a,)]
    if a + 1 == b:
        return [(a, b)]
    found = []
    for row in blocks(a, b):
        if is_press(row):
            rows = [("press",)]
            for c, d in row:
                rows = [some + (part,) for some in rows for part in parts_of(c, d)]
            found.extend(rows)
    return found


def is_pressed(part):
    return part[0] == "press"


def first_layer(part):
    return first_layer(part[1]) if is_pressed(part) else part[0]


def last_layer(part):
    return last_layer(part[-1]) if is_pressed(part) else part[-1]


def order(part):
    """What sorts parts of the same layers as the order of plans says."""
    return tuple((last_layer(inner), order(inner)) for inner in part[1:]) if is_pressed(part) else ()


def spans(part):
    if not is_pressed(part):
        return {part} if len(part) == 2 else set()
    found = {(first_layer(part), last_layer(part))}
    for inner in part[1:]:
        found |= spans(inner)
    return found


def presses(part):
    return 1 + sum(presses(inner) for inner in part[1:]) if is_pressed(part) else 0


def depth(part):
    return 1 + max(depth(inner) for inner in part[1:]) if is_pressed(part) else 0


def text(part):
    if is_pressed(part):
        return "(" + " ".join(text(inner) for inner in part[1:]) + ")"
    return str(part[0]) if len(part) == 1 else "[%d %d]" % part


@lru_cache(maxsize=None)
def all_plans(layers):
    """All plans of a board in order, each with its spans, presses, depth and text."""
    plans = sorted(parts_of(1, layers), key=order)
    return [(spans(plan), presses(plan), depth(plan), text(plan)) for plan in plans]


def plans_that_serve(layers, needed):
    wanted = set(needed)
    return [plan for plan in all_plans(layers) if wanted <= plan[0]]


def all_spans(layers):
    return [(a, b) for a in range(1, layers) for b in range(a + 1, layers + 1)]


def slow_value(layers, needed, weight, deepest=24):
    """The sum of weight to the power of presses over all plans at most that deep, where they are too many to list."""
    memo = {}

    def cut_is_free(a, b, e):
        return not any(a <= c <= e < d <= b and (c, d) != (a, b) for c, d in needed)

    def rows(a, b, i, limit):
        """All rows of parts from layer i to the end of the press a b."""
        key = (a, b, i, limit)
        if key not in memo:
            total = 0
            for e in range(i, b + 1):
                foil_inside = e == i and i not in (a, b)
                whole_press = i == a and e == b
                if not foil_inside and not whole_press and (e == b or cut_is_free(a, b, e)):
                    total += value(i, e, limit) * (1 if e == b else rows(a, b, e + 1, limit))
            memo[key] = total
        return memo[key]

    def value(a, b, limit):
        if b - a < 2:
            return 1
        # Where the depth is no bound, one limit for all keeps the listing short.
        inner = limit if deepest == 24 else limit - 1
        return weight * rows(a, b, a, inner) if limit > 0 else 0

    return value(1, layers, deepest)


def slow_fewest(layers, needed):
    """The fewest presses: the lowest power in the sum for a weight that is beyond any number of plans."""
    weight = 2 ** 200
    total = slow_value(layers, needed, weight)
    power = 0
    while total % weight == 0:
        total //= weight
        power += 1
    return power
