"""The desk: takes a list of calls on one new board and gives back their answers."""

from boardpresses.board import Board
from boardpresses.parts import text_of
from boardpresses.plans import count_plans, fewest_presses, first_with_fewest_presses, least_depth, weigh_plans
from boardpresses.refusals import Refusal


def begin(board, given):
    board.begin(given[0])
    return [0]


def need(board, given):
    board.need(given[0], given[1])
    return [len(board.needed)]


def drop(board, given):
    board.drop(given[0], given[1])
    return [len(board.needed)]


def needs(board, given):
    answer = [board.layers, len(board.needed)]
    for span in board.needed:
        answer.extend(span)
    return answer


def clash(board, given):
    found = board.first_clash()
    return [1] + found if len(found) > 0 else [0]


def count(board, given):
    return [count_plans(board)]


def weigh(board, given):
    return [weigh_plans(board, given[0])]


def least(board, given):
    return [fewest_presses(board)]


def depth(board, given):
    return [least_depth(board)]


def best(board, given):
    return text_answer(first_with_fewest_presses(board))


def text_answer(plan):
    text = text_of(plan)
    return [len(text)] + [ord(sign) for sign in text]


# By a call's number: what answers it, and how many whole numbers it is given.
CALLS = (begin, need, drop, needs, clash, count, weigh, least, depth, best)
GIVEN = (1, 2, 2, 0, 0, 0, 1, 0, 0, 0)


def answer_one(board, number, given):
    call = CALLS[number]
    try:
        return call(board, given)
    except Refusal as refusal:
        return [refusal.number]


def answers(calls):
    board = Board()
    told = []
    place = 0
    while place < len(calls):
        number = calls[place]
        end = place + 1 + GIVEN[number]
        answer = answer_one(board, number, calls[place + 1:end])
        told.append(len(answer))
        told.extend(answer)
        place = end
    return told
