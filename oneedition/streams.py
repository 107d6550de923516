"""Streams: the bytes of one edition, handed on as they become known (section 15)."""

from oneedition.comparing import newest
from oneedition.contents import wanted
from oneedition.errors import Broken
from oneedition.having import can_come, had_since
from oneedition.runs import bytes_until_gap
from oneedition.spans import Spans
from oneedition.states import group_of, present


class Stream:
    """The bytes of one edition that the copy of an order had, at the positions of the order."""

    def __init__(self, order):
        self._order = order
        # The number of some answer of the edition, None as long as there is no edition.
        self._answer = None
        # No position below this one is left.
        self._behind = 0

    def more(self):
        """Return the bytes that follow and are known by now."""
        state = self._order.current()
        place = self._edition(state)
        if place is None:
            return ()
        left = self._left(state, place)
        values, behind = bytes_until_gap(state.picture.content(place).runs, left)
        if not values and left.pairs and _is_broken(state, place):
            raise Broken(state.picture.least_number(place))
        self._answer = state.picture.rows[place].number
        if values:
            self._behind = behind
        return values

    def taken(self):
        """Return the least number of the group of the edition, None as long as there is none."""
        state = self._order.current()
        if self._answer is None:
            return None
        return state.picture.least_number(self._edition(state))

    def is_done(self):
        """Tell whether there is an edition and no position is left."""
        state = self._order.current()
        return self._answer is not None and not self._left(state, self._edition(state)).pairs

    def _edition(self, state):
        """Return the place of an answer of the edition, of the one to take now if there is none yet."""
        if self._answer is not None:
            return state.picture.place[present(state, self._answer)]
        return newest(state.picture, had_since(state, self._order.source, self._order.begun))

    def _left(self, state, place):
        """Return the positions that are left."""
        spans = wanted(state.picture.content(place), self._order.spans)
        return spans - Spans((0, self._behind)) if self._behind > 0 else spans


def _is_broken(state, place):
    """Tell whether no byte of an answer's edition can become known any more."""
    if state.picture.content(place).names is not None:
        return False
    group = group_of(state, state.picture.rows[place].number)
    return not any([answer.stage == "open" for answer in group]) and not can_come(state, place)
