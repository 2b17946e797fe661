"""What each call makes or answers.

Each call has a function with the same three parameters: held, the list of what
the registers hold; numbers, the call's whole numbers, which are in range; row, its list
or text. What makes a set gives back its bounds, what asks gives back its answer;
neither changes what is held.
"""

from momentsets.layout import check_ranges
from momentsets.limits import LATEST, MOST_BOUNDS
from momentsets.moments import both, earlier, either, later, less, odd, other, recent, steady
from momentsets.refusals import BadForm, BoundTooLate, OutOfRange, TooManyBounds
from momentsets.relations import allen
from momentsets.texts import set_of_text, text_of_set


def span(numbers):
    """The set of the moments from a on that are less than b."""
    if numbers[1] >= numbers[2]:
        raise OutOfRange()
    return [numbers[1], numbers[2]]


def make_clear(held, numbers, row):
    return []


def make_put(held, numbers, row):
    for place, bound in enumerate(row):
        if bound < 0 or bound > LATEST:
            raise BadForm()
        if place > 0 and bound <= row[place - 1]:
            raise BadForm()
    return row


def make_read(held, numbers, row):
    return set_of_text(row)


def make_add(held, numbers, row):
    return either(held[numbers[0]], span(numbers))


def make_open(held, numbers, row):
    return either(held[numbers[0]], [numbers[1]])


def make_cut(held, numbers, row):
    return less(held[numbers[0]], span(numbers))


def make_stop(held, numbers, row):
    return less(held[numbers[0]], [numbers[1]])


def make_flip(held, numbers, row):
    return odd(held[numbers[0]], [numbers[1]])


def make_either(held, numbers, row):
    return either(held[numbers[1]], held[numbers[2]])


def make_both(held, numbers, row):
    return both(held[numbers[1]], held[numbers[2]])


def make_less(held, numbers, row):
    return less(held[numbers[1]], held[numbers[2]])


def make_odd(held, numbers, row):
    return odd(held[numbers[1]], held[numbers[2]])


def make_other(held, numbers, row):
    return other(held[numbers[1]])


def make_later(held, numbers, row):
    return later(held[numbers[1]], numbers[2])


def make_earlier(held, numbers, row):
    return earlier(held[numbers[1]], numbers[2])


def make_recent(held, numbers, row):
    return recent(held[numbers[1]], numbers[2])


def make_steady(held, numbers, row):
    return steady(held[numbers[1]], numbers[2])


def ask_bounds(held, numbers, row):
    bounds = held[numbers[0]]
    return [len(bounds)] + bounds


def ask_show(held, numbers, row):
    text = text_of_set(held[numbers[0]])
    return [len(text)] + text


def ask_allen(held, numbers, row):
    return [allen(held[numbers[0]], held[numbers[1]])]


MAKERS = {
    0: make_clear, 1: make_put, 3: make_read,
    5: make_add, 6: make_open, 7: make_cut, 8: make_stop, 9: make_flip,
    10: make_either, 11: make_both, 12: make_less, 13: make_odd, 14: make_other,
    15: make_later, 16: make_earlier, 17: make_recent, 18: make_steady,
}
ASKERS = {2: ask_bounds, 4: ask_show, 36: ask_allen}


def store(held, r, bounds):
    """Puts a set into a register, unless it is out of the limits."""
    if bounds != [] and bounds[-1] > LATEST:
        raise BoundTooLate()
    if len(bounds) > MOST_BOUNDS:
        raise TooManyBounds()
    held[r] = bounds


def carry_out(held, number, numbers, row):
    """The answer to one call; what it makes is put into held."""
    check_ranges(number, numbers)
    if number in ASKERS:
        ask = ASKERS[number]
        return ask(held, numbers, row)
    make = MAKERS[number]
    bounds = make(held, numbers, row)
    store(held, numbers[0], bounds)
    return [len(bounds)]
