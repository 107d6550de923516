"""Sets of positions in a file."""

from oneedition.errors import BadSpans
from oneedition.kinds import is_within

END = 1000000


def _is_pair(value):
    """Tell whether any value is a pair (start, stop) that Spans takes."""
    if not isinstance(value, tuple) or len(value) != 2:
        return False
    start, stop = value
    return is_within(start, 0, END - 1) and is_within(stop, start + 1, END)


def _merged(pairs):
    """Return the ascending tuple of pairs with the same positions that neither overlap nor touch."""
    found = []
    for start, stop in sorted(pairs):
        if found and start <= found[-1][1]:
            found[-1] = (found[-1][0], max(found[-1][1], stop))
        else:
            found.append((start, stop))
    return tuple(found)


def _gaps(pairs):
    """Return the merged pairs of all positions that these merged pairs leave out."""
    found = []
    begin = 0
    for start, stop in pairs:
        if begin < start:
            found.append((begin, start))
        begin = stop
    if begin < END:
        found.append((begin, END))
    return tuple(found)


class Spans:
    """A set of positions from 0 to 999999, given by any pairs (start, stop)."""

    def __init__(self, *pairs):
        if not all([_is_pair(pair) for pair in pairs]):
            raise BadSpans(pairs)
        self.pairs = _merged(pairs)

    def __and__(self, other):
        # In both is what neither of them leaves out.
        pairs = _gaps(_merged(_gaps(self.pairs) + _gaps(other.pairs)))
        return Spans(*pairs)

    def __or__(self, other):
        pairs = self.pairs + other.pairs
        return Spans(*pairs)

    def __sub__(self, other):
        # In one alone is what is neither left out by it nor in the other.
        pairs = _gaps(_merged(_gaps(self.pairs) + other.pairs))
        return Spans(*pairs)

    def __contains__(self, x):
        return any([is_within(x, start, stop - 1) for start, stop in self.pairs])

    def __len__(self):
        # LANGUAGE.md (L28) lets __len__ return nothing but the len of something.
        return len(range(sum([stop - start for start, stop in self.pairs])))

    def __eq__(self, other):
        return isinstance(other, Spans) and self.pairs == other.pairs
