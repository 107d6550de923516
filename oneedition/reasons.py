"""Evidence (section 10) that two answers' editions are not older, the same or newer: how to find it."""

from oneedition.comparing import differ, is_not_newer, may_be_same
from oneedition.contents import union
from oneedition.steps import members


def _path(steps, starts, goals):
    """Return the places on a shortest way by these steps from any of the starts to any of the goals."""
    before = {start: None for start in starts}
    queue = list(starts)
    at = 0
    while at < len(queue) and queue[at] not in goals:
        here = queue[at]
        for place in members(steps[here]):
            if place not in before:
                before[place] = here
                queue.append(place)
        at = at + 1
    found = [queue[at]]
    while before[found[-1]] is not None:
        found.append(before[found[-1]])
    return found[::-1]


def _numbers(picture, places):
    """Return the numbers of the answers at these places."""
    return tuple([picture.rows[place].number for place in places])


def _ways(picture, starts, goals, one, other):
    """Return four ways: from the starts to one and from there to the goals, and the same for the other."""
    steps = picture.steps.ways
    found = []
    for place in (one, other):
        found.append(_numbers(picture, _path(steps, starts, (place,))))
        found.append(_numbers(picture, _path(steps, (place,), goals)))
    return tuple(found)


def _two_weaks(picture, mask):
    """Return the places of two answers of a mask that told different weak marks."""
    told = members(mask & picture.steps.weaks)
    rows = picture.rows
    return told[0], [place for place in told if rows[place].weak != rows[told[0]].weak][0]


def _link(picture, start, stop):
    """Return the link from one answer to another one to which a step of edition leads."""
    steps = picture.steps
    numbers = _numbers(picture, (start, stop))
    if steps.plain[start] >> stop & 1:
        return numbers + (None,)
    one, other = _two_weaks(picture, steps.meaning[start] & steps.meaning_back[stop])
    ground = _numbers(picture, (one, other)) + (_ways(picture, (start,), (stop,), one, other),)
    return numbers + (ground,)


def _chain(picture, starts, goals):
    """Return a chain from any of the starts to any of the goals, of which one is reached."""
    path = _path(picture.steps.links, starts, goals)
    return tuple([_link(picture, start, stop) for start, stop in zip(path, path[1:])])


def _two_different(picture, places):
    """Return two different answers of these places, if there are such two that told it themselves."""
    rows = picture.rows
    pairs = [(one, other) for one in places for other in places]
    told = [(one, other) for one, other in pairs if union([rows[one], rows[other]]) is None]
    return told[0] if told else [(one, other) for one, other in pairs if differ(picture, one, other)][0]


def _why_not_same(picture, one, other):
    """Return evidence that two answers do not have the same edition, None if they may."""
    if may_be_same(picture, one, other):
        return None
    steps, both = picture.steps, (one, other)
    tied = steps.tied_by_meaning(one, other)
    if steps.are_two(tied):
        v, w = _two_weaks(picture, tied)
        return ("meaning",) + _numbers(picture, (v, w)) + (_ways(picture, both, both, v, w),)
    v, w = _two_different(picture, members(steps.tied_by_edition(one, other)))
    ends = ((both, (v,)), ((v,), both), (both, (w,)), ((w,), both))
    chains = [_chain(picture, starts, goals) for starts, goals in ends]
    return ("edition",) + _numbers(picture, (v, w)) + (tuple(chains),)


def reason_of(picture, one, other, word):
    """Return evidence that one answer's edition is not older (the same, newer) than the other's, None without it."""
    if word == "same":
        return _why_not_same(picture, one, other)
    start, stop = (one, other) if word == "newer" else (other, one)
    if not is_not_newer(picture, start, stop):
        return None
    return _chain(picture, (start,), (stop,))
