"""One error class for each refusal, and one for a list that is no list of calls."""


class OutOfRange(Exception):
    """An argument is out of its range, or breaks what the call asks of it besides."""


class BadForm(Exception):
    """A list or text is not of the form."""


class NothingThere(Exception):
    """There is no such moment or piece."""


class EndlessSet(Exception):
    """The set is endless, so it has no last moment and no size."""


class BoundTooLate(Exception):
    """The set that would be put has a bound above the greatest one allowed."""


class TooManyBounds(Exception):
    """The set that would be put has more bounds than are allowed."""


class UnknownCall(Exception):
    """No call has this number: not an answer, the list itself is wrong."""
