"""Checks of any values that are handed in: each raises the error that the document names."""

from oneedition.errors import BadBytes, BadCopies, BadLength, BadNames, BadSpans, BadStart, BadTime, BadWord
from oneedition.errors import Ended, NoAnswer, NoAsk, NoCopy, NoHead, NoWord
from oneedition.kinds import is_name, is_number_in, is_tuple_of, is_within, is_word
from oneedition.spans import END, Spans

LAST_TIME = 1000000000


def _leads_out(followed, name):
    """Tell whether following from this copy comes to one that follows none."""
    for _ in range(len(followed)):
        name = followed[name]
        if name is None:
            return True
    return False


def is_copy(value):
    """Tell whether any value is a pair (name, followed), whatever other copies there are."""
    return is_tuple_of(value, 2) and is_name(value[0]) and (value[1] is None or is_name(value[1]))


def are_copies(value):
    """Tell whether any value is a tuple of copies as a keeper needs it."""
    if not isinstance(value, tuple) or not 1 <= len(value) <= 6:
        return False
    if not all([is_copy(pair) for pair in value]):
        return False
    if not all([one[0] < other[0] for one, other in zip(value, value[1:])]):
        return False
    followed = dict(value)
    if not all([name is None or name in followed for name in list(followed.values())]):
        return False
    return all([_leads_out(followed, name) for name in followed])


def check_copies(value):
    if not are_copies(value):
        raise BadCopies(value)


def check_copy(site, value):
    if not isinstance(value, str) or value not in site.above:
        raise NoCopy(value)


def check_spans(value):
    if not isinstance(value, Spans):
        raise BadSpans(value)


def check_answer(picture, value):
    if not is_number_in(value, picture.place):
        raise NoAnswer(value)


def check_answers(picture, a, b):
    check_answer(picture, a)
    check_answer(picture, b)


def check_word(value):
    if value not in ("older", "same", "newer"):
        raise NoWord(value)


def check_ask(state, value):
    if not is_number_in(value, state.asks):
        raise NoAsk(value)


def check_mark(value, only):
    """Check the mark of an answer to an ask for the mark only, or for no mark."""
    if value is not None and (not is_word(value) or only is not None and value != only):
        raise BadWord(value)


def check_flowing(state, value):
    """Check that any value is the number of an answer with a head, and that its end did not come."""
    if not is_number_in(value, state.told) or state.told[value].stage == "changed":
        raise NoHead(value)
    if state.told[value].stage == "ended":
        raise Ended(value)


def check_length(value):
    if value is not None and not is_within(value, 0, END):
        raise BadLength(value)


def check_until(value, now):
    if value is not None and not is_within(value, now, LAST_TIME):
        raise BadTime(value)


def are_names(value, length, piece):
    """Tell whether any value is a tuple with a word for each piece of a length."""
    return is_tuple_of(value, (length + piece - 1) // piece) and all([is_word(word) for word in value])


def check_names(value, length, piece):
    if value is not None and (length is None or not are_names(value, length, piece)):
        raise BadNames(value)


def are_bytes(value, start):
    """Tell whether any value is a tuple of bytes, one or more, that fits behind a position."""
    if not isinstance(value, tuple) or not 1 <= len(value) <= END - start:
        return False
    return all([is_within(byte, 0, 255) for byte in value])


def check_part(start, values):
    if not is_within(start, 0, END - 1):
        raise BadStart(start)
    if not are_bytes(values, start):
        raise BadBytes(values)
