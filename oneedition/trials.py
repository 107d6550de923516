"""Trials: what is done to a keeper, and is taken back unless it is kept (section 16)."""

from oneedition.errors import TooMany

LIMIT = 4


class Trial:
    """A block in which the keeper itself is used, and behind which it is as it was ahead of it, unless it is kept."""

    def __init__(self, keeper):
        self._keeper = keeper
        # None if what is done stays.
        self._taken_back = True

    def __enter__(self):
        keeper = self._keeper
        if len(keeper.inside) >= LIMIT:
            raise TooMany(LIMIT)
        # The keeper may have changed since this object was made.
        self._taken_back = True
        self._around = keeper.inside
        self._before = keeper.state
        self._now = keeper.now
        self._asks = keeper.open_asks
        self._answers = keeper.answers
        # A trial has a number that no other trial of the keeper has, so that its orders are for it alone.
        keeper.trials = keeper.trials + 1
        keeper.inside = keeper.inside + (keeper.trials,)
        return self

    def __exit__(self, kind, value, trace):
        keeper = self._keeper
        keeper.inside = self._around
        if kind is None and self._taken_back is None:
            return
        keeper.state = self._before
        keeper.now = self._now
        keeper.open_asks = self._asks
        keeper.answers = self._answers

    def keep(self):
        """Let all that is done stay when the block ends without an error."""
        self._taken_back = None
