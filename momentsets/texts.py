"""The text of a set, read and shown.

A text that comes in is a list of bytes and need not be of any known coding, so it
is taken apart byte by byte.
"""

from momentsets.limits import LATEST, MOST_BYTES
from momentsets.moments import covered, pieces_of
from momentsets.refusals import BadForm

BLANK = 32
DOT = 46
ZERO = 48
NINE = 57


def bytes_of(text):
    return [ord(sign) for sign in text]


def words_of(text):
    """What stands between blanks, each word a list of bytes."""
    words = []
    word = []
    # A blank behind the text ends its last word like every other.
    for byte in text + [BLANK]:
        if byte != BLANK:
            word.append(byte)
        elif word != []:
            words.append(word)
            word = []
    return words


def number_of(digits):
    if digits == [] or (digits[0] == ZERO and len(digits) > 1):
        raise BadForm()
    number = 0
    for digit in digits:
        if digit < ZERO or digit > NINE:
            raise BadForm()
        number = number * 10 + digit - ZERO
    if number > LATEST:
        raise BadForm()
    return number


def piece_of(word):
    """The bounds of the piece that a word tells: one if it never ends, else two."""
    if DOT not in word:
        moment = number_of(word)
        return [moment, moment + 1]
    place = word.index(DOT)
    begin = number_of(word[:place])
    if word[place:place + 2] != [DOT, DOT]:
        raise BadForm()
    rest = word[place + 2:]
    if rest == []:
        return [begin]
    end = number_of(rest)
    if end <= begin:
        raise BadForm()
    return [begin, end]


def set_of_text(text):
    """The bounds of the set that a text tells."""
    if len(text) > MOST_BYTES:
        raise BadForm()
    words = words_of(text)
    if words == []:
        raise BadForm()
    if words == [bytes_of("never")]:
        return []
    if words == [bytes_of("always")]:
        return [0]
    begins = []
    ends = []
    for word in words:
        piece = piece_of(word)
        begins.append(piece[0])
        ends.extend(piece[1:])
    return covered(begins, ends)


def text_of_piece(piece):
    begin = piece[0]
    if len(piece) == 1:
        return f"{begin}.."
    end = piece[1]
    if end == begin + 1:
        return str(begin)
    return f"{begin}..{end}"


def text_of_set(bounds):
    """The bytes of the text of a set."""
    if bounds == []:
        return bytes_of("never")
    if bounds == [0]:
        return bytes_of("always")
    return bytes_of(" ".join([text_of_piece(piece) for piece in pieces_of(bounds)]))
