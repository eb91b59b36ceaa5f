"""What is asked of all plans that serve all needed spans."""

from boardpresses.measures import Count, FewestPresses, LeastDepth, Weight
from boardpresses.parts import Part
from boardpresses.refusals import NoPlan, OutOfRange
from boardpresses.ways import Ways, cuts_of, ends_of

MOST_WEIGHT = 1000000


def value_of_plans(measure, board):
    ways = Ways(measure, board)
    return ways.whole[(1, board.layers)]


def check_some_plan(board):
    # Spans of one plan never clash. Where no needed ones do, a plan serves them all: a layer between two of them
    # can be pressed to the one before it.
    if len(board.first_clash()) > 0:
        raise NoPlan()


def count_plans(board):
    return value_of_plans(Count(), board)


def weigh_plans(board, weight):
    if not 0 <= weight <= MOST_WEIGHT:
        raise OutOfRange()
    return value_of_plans(Weight(weight), board)


def fewest_presses(board):
    check_some_plan(board)
    return value_of_plans(FewestPresses(), board)


def least_depth(board):
    check_some_plan(board)
    return value_of_plans(LeastDepth(), board)


def first_with_fewest_presses(board):
    check_some_plan(board)
    return best_part(Ways(FewestPresses(), board), 1, board.layers)


# The first part of the layers a to b with the fewest presses.
def best_part(ways, a, b):
    if b - a < 2:
        return Part(a, b, [])
    cuts = cuts_of(ways.needed, a, b)
    parts = []
    first = a
    while first <= b:
        last = best_end(ways, ends_of(cuts, a, b, first), first, b)
        # A plan has the fewest presses only if each part has, so the parts are chosen one by one.
        parts.append(best_part(ways, first, last))
        first = last + 1
    return Part(a, b, parts)


def best_end(ways, ends, first, b):
    # Of several that are least, min takes the one that comes first: the least layer, as the order of plans asks.
    return min(ends, key=lambda last: ways.row(first, last, b))
