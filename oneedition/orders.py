"""Orders: a part of the file as one copy has it (section 14)."""

from oneedition.comparing import newest
from oneedition.contents import wanted
from oneedition.errors import Closed, NotYet
from oneedition.having import had_since, possible_at
from oneedition.runs import bytes_until_gap, spans_of
from oneedition.streams import Stream


def _missing(picture, place, spans):
    """Return the positions of spans at which the byte of an answer's edition is not known, but may be there."""
    content = picture.content(place)
    return wanted(content, spans) - spans_of(content.runs)


class Order:
    """What somebody wants: the positions of spans, of an edition that the copy source had since begun."""

    def __init__(self, keeper, source, spans):
        self.source = source
        self.spans = spans
        self.begun = keeper.state.time
        self._keeper = keeper
        self._inside = keeper.inside
        self._shut = False

    def __enter__(self):
        self.current()
        return self

    def __exit__(self, kind, value, trace):
        self._shut = True

    def current(self):
        """Return what the keeper has now; an order that is closed, or used in another trial, has nothing."""
        if self._shut or self._keeper.inside != self._inside:
            raise Closed()
        return self._keeper.state

    def close(self):
        """Close the order."""
        self.current()
        self._shut = True

    def had(self):
        """Return the least numbers of the groups whose editions the copy surely had since the order began."""
        state = self.current()
        return tuple([state.picture.rows[place].number for place in had_since(state, self.source, self.begun)])

    def offers(self):
        """Return those of had() of which all bytes that are wanted are known."""
        state = self.current()
        return tuple([state.picture.rows[place].number for place in self._offered(state)])

    def take(self):
        """Return the least number of the newest offer, and its bytes."""
        state = self.current()
        places = self._offered(state)
        if not places:
            raise NotYet()
        place = newest(state.picture, places)
        content = state.picture.content(place)
        values, _ = bytes_until_gap(content.runs, wanted(content, self.spans))
        return state.picture.rows[place].number, values

    def asking(self):
        """Return what to ask the copy for now as (spans, only), None if there is an offer."""
        state = self.current()
        if self._offered(state):
            return None
        picture = state.picture
        # Sorted by the number of positions; then with a mark, by number; then without a mark.
        found = [((len(self.spans), 1, 0), self.spans, None)]
        for place in possible_at(state, self.source):
            mark = picture.content(place).mark
            if mark is not None:
                spans = _missing(picture, place, self.spans)
                found.append(((len(spans), 0, place), spans, mark))
        _, spans, only = min(found, key=lambda row: row[0])
        return spans, only

    def stream(self):
        """Return a stream, which hands the bytes on as they become known."""
        self.current()
        return Stream(self)

    def _offered(self, state):
        """Return the least places of the groups whose editions are offers."""
        return [place for place in had_since(state, self.source, self.begun)
                if not _missing(state.picture, place, self.spans).pairs]
