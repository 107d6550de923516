"""Which editions a copy has or had, or an answer to come can be of (sections 13 to 15)."""

from oneedition.comparing import is_not_newer, is_same, may_be_same
from oneedition.pictures import GHOST, with_ghost


def _seen_now(state, copy):
    """Return the picture with an answer that is not there, of what this copy has now."""
    return with_ghost(state.picture, copy, state.time, state.time)


def maybe_has(state, copy, number):
    """Tell whether a copy may have an answer's edition now."""
    picture = _seen_now(state, copy)
    return may_be_same(picture, picture.place[GHOST], picture.place[number])


def surely_has(state, copy, number):
    """Tell whether a copy has an answer's edition now in all worlds."""
    picture = _seen_now(state, copy)
    return is_same(picture, picture.place[GHOST], picture.place[number])


def possible_at(state, copy):
    """Return the least places of the groups whose editions a copy may have now."""
    picture = _seen_now(state, copy)
    ghost = picture.place[GHOST]
    return [places[0] for places in state.picture.editions if may_be_same(picture, ghost, places[0])]


def _was_under(picture, places, copy):
    """Tell whether some answer of these places is of a copy that is under this one."""
    above = picture.site.above
    return any([copy in above[other] for place in places for other, _, _ in picture.rows[place].seen])


def had_since(state, copy, begun):
    """Return the least places of the groups whose editions a copy surely had at some time since it was begun."""
    picture = with_ghost(state.picture, copy, begun, begun)
    ghost = picture.place[GHOST]
    return [places[0] for places in state.picture.editions
            if _was_under(picture, places, copy) and is_not_newer(picture, ghost, places[0])]


def _can_be_of(state, copy, sent, only, place):
    """Tell whether an answer to come of this copy, to an ask sent at this time, can be of an answer's edition."""
    lasts = [last for row in state.picture.rows for _, _, last in row.seen]
    behind = max([state.time] + lasts) + 1
    picture = with_ghost(state.picture, copy, behind, sent, only)
    return picture.fits and may_be_same(picture, picture.place[GHOST], place)


def can_come(state, place):
    """Tell whether an answer to come can be of the edition of an answer."""
    if any([_can_be_of(state, name, state.time, None, place) for name, _ in state.site.copies]):
        return True
    asks = [state.asks[number] for number in sorted(state.asks)]
    return any([_can_be_of(state, ask.source, ask.sent, ask.only, place) for ask in asks])
