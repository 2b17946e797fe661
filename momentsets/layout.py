"""How calls stand in the one list, and which numbers they may have."""

from momentsets.limits import LAST_REGISTER, LATEST
from momentsets.refusals import OutOfRange, UnknownCall

# The whole numbers of each call, one letter each: r, p, q are registers; s, l, c are step, len, count.
KINDS = {
    0: "r", 1: "r", 2: "r", 3: "r", 4: "r",
    5: "rab", 6: "ra", 7: "rab", 8: "ra", 9: "ra",
    10: "rpq", 11: "rpq", 12: "rpq", 13: "rpq", 14: "rp",
    15: "rpn", 16: "rpn", 17: "rpn", 18: "rpn", 19: "rpn",
    20: "rp", 21: "rp", 22: "rpn", 23: "rpn", 24: "raslc",
    25: "rt", 26: "r", 27: "r", 28: "r", 29: "rt", 30: "rt", 31: "rn", 32: "rt",
    33: "r", 34: "ri", 35: "pq", 36: "pq",
}
WITH_ROW = (1, 3)


def split_calls(calls):
    """A tuple for each call: its number, its whole numbers, its row (empty if it has none)."""
    found = []
    place = 0
    while place < len(calls):
        number = calls[place]
        if number not in KINDS:
            raise UnknownCall(f"no call has the number {number}")
        behind = place + 1 + len(KINDS[number])
        numbers = calls[place + 1:behind]
        row = []
        if number in WITH_ROW:
            begin = behind + 1
            behind = begin + calls[behind]
            row = calls[begin:behind]
        found.append((number, numbers, row))
        place = behind
    return found


def check_ranges(number, numbers):
    """Refuses a call with a whole number that is out of range."""
    for kind, value in zip(KINDS[number], numbers):
        greatest = LAST_REGISTER if kind in "rpq" else LATEST
        if value < 0 or value > greatest:
            raise OutOfRange()
