"""What is known of two answers (section 8)."""

from oneedition.contents import union
from oneedition.steps import members


def differ(picture, one, other):
    """Tell whether two answers are different, by what is known of their editions."""
    return union([picture.content(one), picture.content(other)]) is None


def may_be_same(picture, one, other):
    """Tell whether there is a world in which two answers have the same edition."""
    if picture.steps.are_two(picture.steps.tied_by_meaning(one, other)):
        return False
    tied = picture.steps.tied_by_edition(one, other)
    least = sorted({picture.least[place] for place in members(tied)})
    # If each two of them agree, all of them do.
    return union([picture.contents[place] for place in least]) is not None


def is_not_newer(picture, one, other):
    """Tell whether the edition of one answer is not newer than that of the other in all worlds."""
    return picture.steps.edition[one] >> other & 1 == 1


def is_same(picture, one, other):
    """Tell whether two answers have the same edition in all worlds."""
    return picture.least[one] == picture.least[other]


def words_for(picture, one, other):
    """Return the words that can be said of one answer's edition beside the other's."""
    found = []
    if not is_not_newer(picture, other, one):
        found.append("older")
    if may_be_same(picture, one, other):
        found.append("same")
    if not is_not_newer(picture, one, other):
        found.append("newer")
    return tuple(found)


def truths_for(picture, one, other):
    """Return the truth values that can be said of two answers having the same meaning."""
    steps = picture.steps
    found = []
    if not steps.meaning[one] >> other & 1 or not steps.meaning[other] >> one & 1:
        found.append(False)
    if not steps.are_two(steps.tied_by_meaning(one, other)):
        found.append(True)
    return tuple(found)


def newest(picture, places):
    """Return the first of these places, given ascending, than whose edition no other one's is newer in all worlds."""
    for place in places:
        if not any([words_for(picture, other, place) == ("newer",) for other in places]):
            return place
    return None
