"""What follows from the answers of one moment: their steps, their groups, and whether they have a world."""

from oneedition.contents import contents_of
from oneedition.records import Answer
from oneedition.steps import Steps, lowest, members

# An answer that is not there is told by this number; no answer has it.
GHOST = -1


class Picture:
    """The answers of one moment, ascending by number, and what follows from them."""

    def __init__(self, site, rows):
        self.site = site
        self.rows = rows
        # The pictures with a ghost that were asked for, since they are asked for again and again.
        self.ghosts = {}
        self.place = {row.number: place for place, row in enumerate(rows)}
        self.steps = Steps(site, rows)
        masks = [self.steps.group(place) for place in range(len(rows))]
        self.editions = [members(mask) for place, mask in enumerate(masks) if lowest(mask) == place]
        # Contents are kept under the least place of the group.
        self.least = [lowest(mask) for mask in masks]
        told = contents_of([[rows[place] for place in places] for places in self.editions], site.piece)
        found = [] if told is None else told
        self.contents = {places[0]: content for places, content in zip(self.editions, found)}
        # Answers that must have one meaning, but told two weak marks, are older than each other, so one group, too.
        self.fits = told is not None

    def content(self, place):
        """Return what is known of the edition of an answer."""
        return self.contents[self.least[place]]

    def least_number(self, place):
        """Return the least number of the group of an answer."""
        return self.rows[self.least[place]].number


def with_ghost(picture, copy, first, last, mark=None):
    """Return the picture with an answer behind the others that is not there and tells nothing but its mark."""
    key = (copy, first, last, mark)
    if key not in picture.ghosts:
        ghost = Answer(GHOST, ((copy, first, last),), "open", mark)
        picture.ghosts[key] = Picture(picture.site, picture.rows + (ghost,))
    return picture.ghosts[key]


def without_world(site, rows):
    """Return the numbers of answers that have no world, and of which none can be left out, of such answers."""
    kept = rows
    for left_out in rows:
        fewer = tuple([row for row in kept if row.number != left_out.number])
        if not Picture(site, fewer).fits:
            kept = fewer
    return tuple([row.number for row in kept])
