"""Steps between answers (sections 7 and 8), and where they lead.

Answers are told by their places in a list. A mask is an integer with the bit 1 << place for each answer in it.
"""


def members(mask):
    """Return the ascending list of the places of a mask."""
    return [place for place in range(mask.bit_length()) if mask >> place & 1]


def lowest(mask):
    """Return the least place of a mask that is not 0."""
    return (mask & -mask).bit_length() - 1


def mask_of(places):
    """Return the mask of these places, each given once."""
    return sum([1 << place for place in places])


def _sharing(words):
    """Return, for each word, the mask of the places with the same word; 0 for None."""
    found = {}
    for place, word in enumerate(words):
        found[word] = found.get(word, 0) | 1 << place
    return [0 if told is None else found[told] for told in words]


def _seen_at(rows):
    """Return, for each copy, the list of (last, bit) of the answers that were seen there."""
    found = {}
    for place, row in enumerate(rows):
        for copy, _, last in row.seen:
            found.setdefault(copy, []).append((last, 1 << place))
    return found


def _by_time(site, rows):
    """Return, for each answer, the mask of those whose edition is not older by rule 3."""
    seen = _seen_at(rows)
    found = []
    for row in rows:
        mask = 0
        for copy, first, _ in row.seen:
            for upper in site.above[copy]:
                for last, bit in seen.get(upper, ()):
                    if first <= last:
                        mask = mask | bit
        found.append(mask)
    return found


def _reached(steps):
    """Return, for each place, the mask of the places to which any number of steps leads, itself included."""
    reach = [mask | 1 << place for place, mask in enumerate(steps)]
    for middle in range(len(steps)):
        through = reach[middle]
        reach = [mask | through if mask >> middle & 1 else mask for mask in reach]
    return reach


def _turned(reach):
    """Return, for each place, the mask of the places that reach it."""
    return [mask_of([start for start, mask in enumerate(reach) if mask >> place & 1]) for place in range(len(reach))]


class Steps:
    """The steps between answers, and what is reached by them; extra are pairs of places with a step of any kind."""

    def __init__(self, site, rows, extra=()):
        plain = [one | other for one, other in zip(_by_time(site, rows), _sharing([row.mark for row in rows]))]
        for start, stop in extra:
            plain[start] = plain[start] | 1 << stop
        # From an answer to itself lead no steps.
        self.plain = [(mask | 1 << place) ^ 1 << place for place, mask in enumerate(plain)]
        self.weak = _sharing([row.weak for row in rows])
        self.weaks = mask_of([place for place, row in enumerate(rows) if row.weak is not None])
        self.ways = [(mask | weak | 1 << place) ^ 1 << place
                     for place, (mask, weak) in enumerate(zip(self.plain, self.weak))]
        self.meaning = _reached(self.ways)
        self.meaning_back = _turned(self.meaning)
        self.older = [self._older_than(place) for place in range(len(rows))]
        self.links = [one | other for one, other in zip(self.plain, self.older)]
        self.edition = _reached(self.links)
        self.edition_back = _turned(self.edition)

    def are_two(self, mask):
        """Tell whether two answers of a mask told different weak marks."""
        told = mask & self.weaks
        return told != 0 and told & self.weak[lowest(told)] != told

    def _older_than(self, start):
        """Return the mask of the answers whose meaning is newer than this one's in all worlds."""
        if self.weaks == 0:
            return 0
        reach = self.meaning[start]
        return mask_of([place for place in members(reach)
                        if place != start and self.are_two(reach & self.meaning_back[place])])

    def tied_by_edition(self, one, other):
        """Return the mask of the answers that are tied to two by steps of edition."""
        reach, back = self.edition, self.edition_back
        return (reach[one] | reach[other]) & (back[one] | back[other])

    def tied_by_meaning(self, one, other):
        """Return the mask of the answers that are tied to two by steps of meaning."""
        reach, back = self.meaning, self.meaning_back
        return (reach[one] | reach[other]) & (back[one] | back[other])

    def group(self, place):
        """Return the mask of the answers that are known to have the same edition."""
        return self.edition[place] & self.edition_back[place]
