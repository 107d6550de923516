"""Keepers (sections 5 to 16)."""

from oneedition.checks import check_answer, check_answers, check_ask, check_copies, check_copy, check_flowing
from oneedition.checks import check_length, check_mark, check_names, check_part, check_spans, check_until, check_word
from oneedition.comparing import truths_for, words_for
from oneedition.contents import ground_of, is_all_known
from oneedition.errors import BadCount, BadPiece, BadWord, Flowing, NoMark
from oneedition.having import maybe_has, possible_at, surely_has
from oneedition.kinds import is_within, is_word
from oneedition.lines import text_of
from oneedition.orders import Order
from oneedition.reasons import reason_of
from oneedition.records import Site
from oneedition.runs import byte_at, spans_of
from oneedition.spans import END
from oneedition.states import after_answer, after_ask, after_end, after_fold, after_letting_go, after_loss, after_part
from oneedition.states import first_state, group_of, later
from oneedition.trials import Trial
from oneedition.worlds import world_of


class Keeper:
    """What is known of the editions of a file at several copies, by what the copies answered."""

    def __init__(self, copies, *, piece=4):
        check_copies(copies)
        if not is_within(piece, 1, 64):
            raise BadPiece(piece)
        self.copies = copies
        self.piece = piece
        # The trials that are going on, outermost first, and how many there were.
        self.inside = ()
        self.trials = 0
        self.become(first_state(Site(copies, piece)))

    def become(self, state):
        """Take over a state; now, open_asks and answers always show the one that the keeper has."""
        self.state = state
        self.now = state.time
        self.open_asks = tuple(sorted(state.asks))
        self.answers = tuple(sorted(state.told))

    def __eq__(self, other):
        return isinstance(other, Keeper) and text_of(self.state) == text_of(other.state)

    def wait(self, many):
        """Let time go by."""
        if not is_within(many, 1, 1000):
            raise BadCount(many)
        self.become(later(self.state, many))

    def ask(self, copy, spans=None, *, only=None):
        """Note that an ask was sent to a copy, and return its number."""
        check_copy(self.state.site, copy)
        if spans is not None:
            check_spans(spans)
        if only is not None and not is_word(only):
            raise BadWord(only)
        number = self.state.upcoming
        self.become(after_ask(self.state, copy, spans, only))
        return number

    def head(self, number, *, mark=None, weak=None, length=None, until=None, names=None):
        """Note that the answer to an open ask began."""
        check_ask(self.state, number)
        only = self.state.asks[number].only
        check_mark(mark, only)
        check_mark(weak, None)
        check_length(length)
        check_until(until, self.state.time + 1)
        check_names(names, length, self.piece)
        own = only if mark is None else mark
        self.become(after_answer(self.state, number, "open", own, weak, length, until, names))

    def changed(self, number):
        """Note that the copy's edition does not have the mark of an open ask."""
        check_ask(self.state, number)
        if self.state.asks[number].only is None:
            raise NoMark(number)
        self.become(after_answer(self.state, number, "changed", None, None, None, None, None))

    def lost(self, number):
        """Note that no answer to an open ask will come."""
        check_ask(self.state, number)
        self.become(after_loss(self.state, number))

    def part(self, number, start, values):
        """Note that bytes of an answer arrived, at the positions from start on."""
        check_flowing(self.state, number)
        check_part(start, values)
        self.become(after_part(self.state, number, start, values))

    def ended(self, number):
        """Note that no more parts of an answer will come."""
        check_flowing(self.state, number)
        self.become(after_end(self.state, number))

    def compared(self, a, b):
        """Return which of "older", "same" and "newer" a's edition can be beside b's."""
        one, other = self._two(a, b)
        return words_for(self.state.picture, one, other)

    def alike(self, a, b):
        """Return which truth values "a and b have the same meaning" can have."""
        one, other = self._two(a, b)
        return truths_for(self.state.picture, one, other)

    def reason(self, a, b, word):
        """Return evidence that a's edition is not older (the same, newer, by word) than b's, None without it."""
        one, other = self._two(a, b)
        check_word(word)
        return reason_of(self.state.picture, one, other, word)

    def world(self, a, b, word):
        """Return a world in which a's edition is older (the same, newer, by word) than b's, None without one."""
        one, other = self._two(a, b)
        check_word(word)
        return world_of(self.state.picture, one, other, word)

    def groups(self):
        """Return the tuples of all answers that are known to have one edition."""
        picture = self.state.picture
        return tuple([tuple([picture.rows[place].number for place in places]) for places in picture.editions])

    def length(self, a):
        """Return the length of a's edition, None if it is not known."""
        return self._content(a).size

    def known(self, a):
        """Return the Spans of the positions at which the byte of a's edition is known."""
        return spans_of(self._content(a).runs)

    def byte(self, a, position):
        """Return the byte of a's edition at a position, None if it is not known."""
        content = self._content(a)
        return byte_at(content.runs, position) if is_within(position, 0, END - 1) else None

    def is_whole(self, a):
        """Tell whether the length and all bytes of a's edition are known."""
        return is_all_known(self._content(a))

    def stretches(self, a):
        """Yield the known bytes of a's edition as pairs (start, values)."""
        runs = self._content(a).runs
        for start, values in runs:
            yield start, values

    def ground(self, a, position):
        """Return the numbers of the answers by which a byte of a's edition is known, None if it is not known."""
        place = self._place(a)
        return ground_of(self.state.picture, place, position) if is_within(position, 0, END - 1) else None

    def let_go(self, number, spans):
        """Forget the bytes that an answer told at the positions of spans."""
        check_answer(self.state.picture, number)
        check_spans(spans)
        self.become(after_letting_go(self.state, number, spans))

    def fold(self, a):
        """Let the least number of a's group stand for the whole group, and return it."""
        check_answer(self.state.picture, a)
        for answer in group_of(self.state, a):
            if answer.stage == "open":
                raise Flowing(answer.number)
        least = group_of(self.state, a)[0].number
        self.become(after_fold(self.state, a))
        return least

    def sightings(self, a):
        """Return where and when a's edition was seen by this answer: tuples (copy, first, last)."""
        return self.state.picture.rows[self._place(a)].seen

    def may_have(self, copy, a):
        """Tell whether a copy may have a's edition now."""
        check_copy(self.state.site, copy)
        check_answer(self.state.picture, a)
        return maybe_has(self.state, copy, a)

    def has(self, copy, a):
        """Tell whether a copy has a's edition now in all worlds."""
        check_copy(self.state.site, copy)
        check_answer(self.state.picture, a)
        return surely_has(self.state, copy, a)

    def possible(self, copy):
        """Return the least numbers of all groups whose editions a copy may have now."""
        check_copy(self.state.site, copy)
        return tuple([self.state.picture.rows[place].number for place in possible_at(self.state, copy)])

    def order(self, copy, spans):
        """Return an order of a part of the file as a copy has it from now on."""
        check_copy(self.state.site, copy)
        check_spans(spans)
        return Order(self, copy, spans)

    def ordered(self, copy, spans, deed):
        """Return what deed(order) returns, with an order that is closed behind it."""
        with self.order(copy, spans) as held:
            return deed(held)

    def trial(self):
        """Return a trial: what is done to the keeper in its block is taken back, unless it is kept."""
        return Trial(self)

    def tried(self, deed):
        """Return what deed(trial) returns, with a trial around it."""
        with self.trial() as held:
            return deed(held)

    def _place(self, a):
        """Return the place of an answer."""
        check_answer(self.state.picture, a)
        return self.state.picture.place[a]

    def _two(self, a, b):
        """Return the places of two answers."""
        check_answers(self.state.picture, a, b)
        return self.state.picture.place[a], self.state.picture.place[b]

    def _content(self, a):
        """Return what is known of an answer's edition."""
        return self.state.picture.content(self._place(a))
