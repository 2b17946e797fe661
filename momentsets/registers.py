"""The eight registers and the answers to a list of calls on them."""

from momentsets.calls import carry_out
from momentsets.layout import split_calls
from momentsets.limits import LAST_REGISTER
from momentsets.refusals import BadForm, BoundTooLate, EndlessSet, NothingThere, OutOfRange, TooManyBounds


def answer_or_refusal(held, number, numbers, row):
    try:
        return carry_out(held, number, numbers, row)
    except OutOfRange:
        return [-1]
    except BadForm:
        return [-2]
    except NothingThere:
        return [-3]
    except EndlessSet:
        return [-4]
    except BoundTooLate:
        return [-5]
    except TooManyBounds:
        return [-6]


def answers(calls):
    """For each call, how many numbers it answers, and these."""
    held = [[] for place in range(LAST_REGISTER + 1)]
    told = []
    for number, numbers, row in split_calls(calls):
        answer = answer_or_refusal(held, number, numbers, row)
        told.append(len(answer))
        told.extend(answer)
    return told
