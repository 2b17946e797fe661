"""What each call makes or answers.

Each call has a function with the same three parameters: held, the list of what
the registers hold; numbers, the call's whole numbers, which are in range; row, its list
or text. What makes a set gives back its bounds, what asks gives back its answer;
neither changes what is held.
"""

from momentsets.layout import check_ranges
from momentsets.limits import LATEST, MOST_BOUNDS, MOST_STRETCHES
from momentsets.moments import both, earlier, either, later, less, odd, other, recent, steady
from momentsets.moments import every, fill, gaps, hull, lasting, soon
from momentsets.questions import count_of_pieces, first, first_from, has, last, last_up_to, nth, piece_at, rank, size
from momentsets.refusals import BadForm, BoundTooLate, OutOfRange, TooManyBounds
from momentsets.relations import allen, relate
from momentsets.texts import set_of_text, text_of_set


def span(numbers):
    """The set of the moments from a on that are less than b."""
    if numbers[1] >= numbers[2]:
        raise OutOfRange()
    return [numbers[1], numbers[2]]


def make_clear(held, numbers, row):
    return []


def make_put(held, numbers, row):
    for place, bound in enumerate(row):
        if bound < 0 or bound > LATEST:
            raise BadForm()
        if place > 0 and bound <= row[place - 1]:
            raise BadForm()
    return row


def make_read(held, numbers, row):
    return set_of_text(row)


def make_add(held, numbers, row):
    return either(held[numbers[0]], span(numbers))


def make_open(held, numbers, row):
    return either(held[numbers[0]], [numbers[1]])


def make_cut(held, numbers, row):
    return less(held[numbers[0]], span(numbers))


def make_stop(held, numbers, row):
    return less(held[numbers[0]], [numbers[1]])


def make_flip(held, numbers, row):
    return odd(held[numbers[0]], [numbers[1]])


def make_either(held, numbers, row):
    return either(held[numbers[1]], held[numbers[2]])


def make_both(held, numbers, row):
    return both(held[numbers[1]], held[numbers[2]])


def make_less(held, numbers, row):
    return less(held[numbers[1]], held[numbers[2]])


def make_odd(held, numbers, row):
    return odd(held[numbers[1]], held[numbers[2]])


def make_other(held, numbers, row):
    return other(held[numbers[1]])


def make_later(held, numbers, row):
    return later(held[numbers[1]], numbers[2])


def make_earlier(held, numbers, row):
    return earlier(held[numbers[1]], numbers[2])


def make_recent(held, numbers, row):
    return recent(held[numbers[1]], numbers[2])


def make_steady(held, numbers, row):
    return steady(held[numbers[1]], numbers[2])


def make_soon(held, numbers, row):
    return soon(held[numbers[1]], numbers[2])


def make_hull(held, numbers, row):
    return hull(held[numbers[1]])


def make_gaps(held, numbers, row):
    return gaps(held[numbers[1]])


def make_lasting(held, numbers, row):
    return lasting(held[numbers[1]], numbers[2])


def make_fill(held, numbers, row):
    return fill(held[numbers[1]], numbers[2])


def make_every(held, numbers, row):
    step = numbers[2]
    length = numbers[3]
    count = numbers[4]
    if length == 0 or length > step or count > MOST_STRETCHES:
        raise OutOfRange()
    return every(numbers[1], step, length, count)


def ask_bounds(held, numbers, row):
    bounds = held[numbers[0]]
    return [len(bounds)] + bounds


def ask_show(held, numbers, row):
    text = text_of_set(held[numbers[0]])
    return [len(text)] + text


def ask_has(held, numbers, row):
    return [has(held[numbers[0]], numbers[1])]


def ask_first(held, numbers, row):
    return [first(held[numbers[0]])]


def ask_last(held, numbers, row):
    return [last(held[numbers[0]])]


def ask_size(held, numbers, row):
    return [size(held[numbers[0]])]


def ask_next(held, numbers, row):
    return [first_from(held[numbers[0]], numbers[1])]


def ask_prev(held, numbers, row):
    return [last_up_to(held[numbers[0]], numbers[1])]


def ask_nth(held, numbers, row):
    return [nth(held[numbers[0]], numbers[1])]


def ask_rank(held, numbers, row):
    return [rank(held[numbers[0]], numbers[1])]


def ask_pieces(held, numbers, row):
    return count_of_pieces(held[numbers[0]])


def ask_piece(held, numbers, row):
    return piece_at(held[numbers[0]], numbers[1])


def ask_relate(held, numbers, row):
    return [relate(held[numbers[0]], held[numbers[1]])]


def ask_allen(held, numbers, row):
    return [allen(held[numbers[0]], held[numbers[1]])]


MAKERS = {
    0: make_clear, 1: make_put, 3: make_read,
    5: make_add, 6: make_open, 7: make_cut, 8: make_stop, 9: make_flip,
    10: make_either, 11: make_both, 12: make_less, 13: make_odd, 14: make_other,
    15: make_later, 16: make_earlier, 17: make_recent, 18: make_steady, 19: make_soon,
    20: make_hull, 21: make_gaps, 22: make_lasting, 23: make_fill, 24: make_every,
}
ASKERS = {
    2: ask_bounds, 4: ask_show, 25: ask_has, 26: ask_first, 27: ask_last, 28: ask_size,
    29: ask_next, 30: ask_prev, 31: ask_nth, 32: ask_rank, 33: ask_pieces, 34: ask_piece,
    35: ask_relate, 36: ask_allen,
}


def store(held, r, bounds):
    """Puts a set into a register, unless it is out of the limits."""
    if bounds != [] and bounds[-1] > LATEST:
        raise BoundTooLate()
    if len(bounds) > MOST_BOUNDS:
        raise TooManyBounds()
    held[r] = bounds


def carry_out(held, number, numbers, row):
    """The answer to one call; what it makes is put into held."""
    check_ranges(number, numbers)
    if number in ASKERS:
        ask = ASKERS[number]
        return ask(held, numbers, row)
    make = MAKERS[number]
    bounds = make(held, numbers, row)
    store(held, numbers[0], bounds)
    return [len(bounds)]
