"""Whether any value is evidence (sections 10 and 11)."""

from oneedition.checks import check_answer, check_answers, check_word
from oneedition.comparing import differ
from oneedition.contents import is_ground
from oneedition.kinds import is_number_in, is_tuple_of, is_within
from oneedition.spans import END
from oneedition.worlds import is_world_for


def _is_step(picture, steps, start, stop):
    """Tell whether one of these steps leads from one answer to another one, given by their numbers."""
    return steps[picture.place[start]] >> picture.place[stop] & 1 == 1


def _is_way(picture, value, starts, goals):
    """Tell whether any value is a way from one of the starts to one of the goals."""
    if not isinstance(value, tuple) or not value:
        return False
    if not all([is_number_in(number, picture.place) for number in value]):
        return False
    if value[0] not in starts or value[-1] not in goals:
        return False
    return all([_is_step(picture, picture.steps.ways, start, stop) for start, stop in zip(value, value[1:])])


def _are_answers(picture, values):
    """Tell whether any values are numbers of answers."""
    return all([is_number_in(value, picture.place) for value in values])


def _told_two(picture, v, w):
    """Tell whether two answers told different weak marks."""
    one, other = picture.rows[picture.place[v]].weak, picture.rows[picture.place[w]].weak
    return one is not None and other is not None and one != other


def _is_four(value, v, w, starts, goals, holds):
    """Tell whether any value is a tuple of four for which holds(part, starts, goals) is true.

    They lead from the starts to v, from v to the goals, from the starts to w, and from w to the goals.
    """
    if not is_tuple_of(value, 4):
        return False
    ends = ((starts, (v,)), ((v,), goals), (starts, (w,)), ((w,), goals))
    return all([holds(part, ends[at][0], ends[at][1]) for at, part in enumerate(value)])


def _is_meaning(picture, v, w, value, starts, goals):
    """Tell whether v and w told different weak marks, and any value is the four ways over them."""
    if not _are_answers(picture, (v, w)) or not _told_two(picture, v, w):
        return False
    return _is_four(value, v, w, starts, goals, lambda part, first, last: _is_way(picture, part, first, last))


def _is_link(picture, value):
    """Tell whether any value is a link."""
    if not is_tuple_of(value, 3) or not _are_answers(picture, value[:2]) or value[0] == value[1]:
        return False
    start, stop, ground = value
    if ground is None:
        return _is_step(picture, picture.steps.plain, start, stop)
    return is_tuple_of(ground, 3) and _is_meaning(picture, ground[0], ground[1], ground[2], (start,), (stop,))


def _is_chain(picture, value, starts, goals):
    """Tell whether any value is a chain from one of the starts to one of the goals."""
    if value == ():
        return any([start in goals for start in starts])
    if not isinstance(value, tuple) or not all([_is_link(picture, link) for link in value]):
        return False
    if value[0][0] not in starts or value[-1][1] not in goals:
        return False
    return all([one[1] == other[0] for one, other in zip(value, value[1:])])


def _is_edition(picture, v, w, value, both):
    """Tell whether v and w are different, and any value is the four chains over them."""
    if not _are_answers(picture, (v, w)) or not differ(picture, picture.place[v], picture.place[w]):
        return False
    return _is_four(value, v, w, both, both, lambda part, first, last: _is_chain(picture, part, first, last))


def _is_not_same(picture, value, both):
    """Tell whether any value is evidence that two answers do not have the same edition."""
    if not is_tuple_of(value, 4):
        return False
    kind, v, w, told = value
    if kind == "edition":
        return _is_edition(picture, v, w, told, both)
    return kind == "meaning" and _is_meaning(picture, v, w, told, both, both)


def shows_reason(keeper, a, b, word, value):
    """Tell whether any value is evidence that a's edition is not older (the same, newer, by word) than b's."""
    picture = keeper.state.picture
    check_answers(picture, a, b)
    check_word(word)
    if word == "same":
        return _is_not_same(picture, value, (a, b))
    start, stop = (a, b) if word == "newer" else (b, a)
    return _is_chain(picture, value, (start,), (stop,))


def shows_world(keeper, a, b, word, value):
    """Tell whether any value is a world in which a's edition is older (the same, newer, by word) than b's."""
    picture = keeper.state.picture
    check_answers(picture, a, b)
    check_word(word)
    return is_world_for(picture, picture.place[a], picture.place[b], word, value)


def shows_ground(keeper, a, position, value):
    """Tell whether any value is why the byte at a position is known of a's edition."""
    picture = keeper.state.picture
    check_answer(picture, a)
    if not is_within(position, 0, END - 1) or not isinstance(value, tuple) or len(value) not in (1, 3):
        return False
    return _are_answers(picture, value) and is_ground(picture, picture.place[a], position, value)
