"""The desk: takes a list of calls on one new board and gives back their answers."""

from boardpresses.board import Board
from boardpresses.parts import depth_of, is_press, mirrored, pieces_of, spans_of, text_of
from boardpresses.plans import count_plans, fewest_presses, first_with_fewest_presses, first_with_least_depth
from boardpresses.plans import least_depth, number_of_plan, plan_behind, plan_with_number, serves_all, weigh_plans
from boardpresses.reader import read_plan
from boardpresses.refusals import Refusal


def begin(board, given):
    board.begin(given[0])
    return [0]


def need(board, given):
    board.need(given[0], given[1])
    return [len(board.needed)]


def drop(board, given):
    board.drop(given[0], given[1])
    return [len(board.needed)]


def needs(board, given):
    return [board.layers] + pairs_answer(board.needed)


def clash(board, given):
    found = board.first_clash()
    return [1] + found if len(found) > 0 else [0]


def count(board, given):
    return [count_plans(board)]


def weigh(board, given):
    return [weigh_plans(board, given[0])]


def least(board, given):
    return [fewest_presses(board)]


def depth(board, given):
    return [least_depth(board)]


def best(board, given):
    return text_answer(first_with_fewest_presses(board))


def flat(board, given):
    return text_answer(first_with_least_depth(board))


def plan(board, given):
    return text_answer(plan_with_number(board, given[0]))


def rank(board, given):
    return [number_of_plan(board, read_text(board, given))]


def following(board, given):
    return text_answer(plan_behind(board, read_text(board, given)))


def check(board, given):
    read = read_text(board, given)
    served = 1 if serves_all(board, read) else 0
    pieces = pieces_of(read)
    presses = len([piece for piece in pieces if is_press(piece)])
    return [served, presses, depth_of(read), len(pieces) - presses]


def spans(board, given):
    return pairs_answer(spans_of(read_text(board, given)))


def mirror(board, given):
    return text_answer(mirrored(read_text(board, given), board.layers))


def steps(board, given):
    pieces = pieces_of(read_text(board, given))
    answer = [len(pieces)]
    for piece in pieces:
        needed = (piece.first, piece.last) in board.needed
        answer.extend([1 if is_press(piece) else 0, piece.first, piece.last, 1 if needed else 0])
    return answer


def turn(board, given):
    board.turn()
    return [0]


def read_text(board, given):
    # The first number given tells how many bytes the text has.
    return read_plan(given[1:], board.layers)


def pairs_answer(pairs):
    answer = [len(pairs)]
    for pair in pairs:
        answer.extend(pair)
    return answer


def text_answer(part):
    text = text_of(part)
    return [len(text)] + [ord(sign) for sign in text]


# By a call's number: what answers it, and how many whole numbers it is given.
CALLS = (
    begin, need, drop, needs, clash, count, weigh, least, depth, best,
    flat, plan, rank, following, check, spans, mirror, steps, turn,
)
GIVEN = (1, 2, 2, 0, 0, 0, 1, 0, 0, 0, 0, 1, 1, 1, 1, 1, 1, 1, 0)
# These are given a text too; the whole number before it is its length.
WITH_TEXT = (12, 13, 14, 15, 16, 17)


def answer_one(board, number, given):
    call = CALLS[number]
    try:
        return call(board, given)
    except Refusal as refusal:
        return [refusal.number]


def end_of_call(calls, place):
    number = calls[place]
    end = place + 1 + GIVEN[number]
    return end + calls[place + 1] if number in WITH_TEXT else end


def answers(calls):
    board = Board()
    told = []
    place = 0
    while place < len(calls):
        end = end_of_call(calls, place)
        answer = answer_one(board, calls[place], calls[place + 1:end])
        told.append(len(answer))
        told.extend(answer)
        place = end
    return told
