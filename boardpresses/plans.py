"""What is asked of the plans that serve all needed spans."""

from boardpresses.measures import Count, FewestPresses, LeastDepth, Weight
from boardpresses.order import DepthChooser, FewestPressesChooser, NumberChooser, chosen_part, number_of
from boardpresses.parts import spans_of
from boardpresses.refusals import NoPlan, NoSuchNumber, NotServing, OutOfRange
from boardpresses.ways import Ways

MOST_WEIGHT = 1000000


def value_of_plans(measure, board):
    ways = Ways(measure, board)
    return ways.whole[(1, board.layers)]


def check_some_plan(board):
    # Spans of one plan never clash. Where no needed ones do, a plan serves them all: a layer between two of them
    # can be pressed to the one before it.
    if len(board.first_clash()) > 0:
        raise NoPlan()


def count_plans(board):
    return value_of_plans(Count(), board)


def weigh_plans(board, weight):
    if not 0 <= weight <= MOST_WEIGHT:
        raise OutOfRange()
    return value_of_plans(Weight(weight), board)


def fewest_presses(board):
    check_some_plan(board)
    return value_of_plans(FewestPresses(), board)


def least_depth(board):
    check_some_plan(board)
    return value_of_plans(LeastDepth(), board)


def first_with_fewest_presses(board):
    check_some_plan(board)
    return chosen_part(FewestPressesChooser(), Ways(FewestPresses(), board), 1, board.layers)


def first_with_least_depth(board):
    check_some_plan(board)
    ways = Ways(LeastDepth(), board)
    return chosen_part(DepthChooser(ways.whole[(1, board.layers)]), ways, 1, board.layers)


def plan_with_number(board, number):
    ways = Ways(Count(), board)
    if not 0 <= number < ways.whole[(1, board.layers)]:
        raise NoSuchNumber()
    return chosen_part(NumberChooser(number), ways, 1, board.layers)


def serves_all(board, plan):
    spans = spans_of(plan)
    return all([span in spans for span in board.needed])


def number_of_plan(board, plan):
    if not serves_all(board, plan):
        raise NotServing()
    return number_of(plan, Ways(Count(), board))


def plan_behind(board, plan):
    return plan_with_number(board, number_of_plan(board, plan) + 1)
