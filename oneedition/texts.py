"""Texts of keepers (section 17)."""

from oneedition.errors import BadText
from oneedition.keeper import Keeper
from oneedition.lines import text_of
from oneedition.reading import state_of


def show_keeper(keeper):
    """Return the text of a keeper."""
    return text_of(keeper.state)


def read_keeper(text):
    """Return the keeper that a text shows; text is any value."""
    if not isinstance(text, str):
        raise BadText(0)
    state = state_of(text)
    keeper = Keeper(state.site.copies, piece=state.site.piece)
    keeper.become(state)
    return keeper
