"""Worlds (section 7): how to lay one out, and whether something is one."""

from oneedition.comparing import is_not_newer, may_be_same
from oneedition.contents import contents_of
from oneedition.kinds import is_tuple_of, is_whole_number
from oneedition.steps import Steps, lowest, members

WORDS = ("older", "same", "newer")


def _ranks(reach, back):
    """Return, for each place, what sorts the places so that steps lead from lesser to greater or to equal ones."""
    return [(len(members(mask)), lowest(mask & reach[place])) for place, mask in enumerate(back)]


def _laid_out(picture, extra):
    """Return a world in which, besides, the steps of extra hold."""
    steps = Steps(picture.site, picture.rows, extra)
    meanings = _ranks(steps.meaning, steps.meaning_back)
    editions = list(zip(meanings, _ranks(steps.edition, steps.edition_back)))
    # With the meaning first, the editions of one meaning stand next to each other.
    older_first, by_meaning = sorted(set(editions)), sorted(set(meanings))
    return tuple([(row.number, older_first.index(editions[place]), by_meaning.index(meanings[place]))
                  for place, row in enumerate(picture.rows)])


def world_of(picture, one, other, word):
    """Return a world in which one answer's edition is older (the same, newer) than the other's, None without one."""
    if word == "same":
        return _laid_out(picture, ((one, other), (other, one))) if may_be_same(picture, one, other) else None
    old, new = (one, other) if word == "older" else (other, one)
    if is_not_newer(picture, new, old):
        return None
    return _laid_out(picture, ((old, new),))


def _is_shaped(picture, value):
    """Tell whether any value is a tuple of three integers for each answer."""
    if not is_tuple_of(value, len(picture.rows)):
        return False
    for row, told in zip(picture.rows, value):
        if not is_tuple_of(told, 3) or not all([is_whole_number(number) for number in told]) or told[0] != row.number:
            return False
    return True


def _marks_hold(one, other, editions):
    """Tell whether rule 1 holds for two answers with these editions."""
    same = editions[0] == editions[1]
    if one.mark is not None and other.mark is not None and same != (one.mark == other.mark):
        return False
    return not same or one.mark not in other.nots


def _meanings_hold(one, other, editions, meanings):
    """Tell whether rule 2 holds for two answers with these editions and meanings."""
    same = meanings[0] == meanings[1]
    if one.weak is not None and other.weak is not None and same != (one.weak == other.weak):
        return False
    if editions[0] == editions[1]:
        return same
    return (editions[0] < editions[1]) == (meanings[0] < meanings[1]) or same


def _times_hold(site, one, other, editions):
    """Tell whether rule 3 holds for two answers with these editions."""
    if editions[0] <= editions[1]:
        return True
    return not any([first <= last and upper in site.above[copy]
                    for copy, first, _ in one.seen for upper, _, last in other.seen])


def _contents_hold(picture, editions):
    """Tell whether rule 4 holds for answers with these editions."""
    rows = {}
    for row, edition in zip(picture.rows, editions):
        rows.setdefault(edition, []).append(row)
    return contents_of(list(rows.values()), picture.site.piece) is not None


def is_world(picture, value):
    """Tell whether any value is a world."""
    if not _is_shaped(picture, value):
        return False
    for one, (_, edition, meaning) in zip(picture.rows, value):
        for other, (_, another, unlike) in zip(picture.rows, value):
            editions, meanings = (edition, another), (meaning, unlike)
            if not _marks_hold(one, other, editions) or not _times_hold(picture.site, one, other, editions):
                return False
            if not _meanings_hold(one, other, editions, meanings):
                return False
    return _contents_hold(picture, [told[1] for told in value])


def is_world_for(picture, one, other, word, value):
    """Tell whether any value is a world in which one answer's edition is older (the same, newer) than the other's."""
    if not is_world(picture, value):
        return False
    edition, another = value[one][1], value[other][1]
    if word == "same":
        return edition == another
    return edition < another if word == "older" else edition > another
