"""What a keeper has at one moment, and what it has behind an event."""

from oneedition.contents import union
from oneedition.errors import Contradiction
from oneedition.pictures import Picture, without_world
from oneedition.records import Answer, Ask, with_runs, with_stage
from oneedition.runs import cut_to, joined, spans_of
from oneedition.steps import members


class State:
    """The time, the number of the next ask, the open asks, the answers, and which number each gone one has now.

    It is never changed; so a trial that is not kept, or a call that raises an error, leaves nothing.
    """

    def __init__(self, site, time, upcoming, asks, told, gone, picture):
        self.site = site
        self.time = time
        self.upcoming = upcoming
        self.asks = asks
        self.told = told
        self.gone = gone
        self.picture = picture


def first_state(site):
    """Return what a keeper has at first."""
    return State(site, 0, 0, {}, {}, {}, Picture(site, ()))


def picture_of(site, told):
    """Return the picture of these answers."""
    return Picture(site, tuple([told[number] for number in sorted(told)]))


def later(state, many):
    """Return the state when so much time has gone by."""
    return State(state.site, state.time + many, state.upcoming, state.asks, state.told, state.gone, state.picture)


def _with_asks(state, upcoming, asks):
    """Return the state with these open asks."""
    return State(state.site, state.time, upcoming, asks, state.told, state.gone, state.picture)


def _with_told(state, told, gone):
    """Return the state with these answers."""
    return State(state.site, state.time, state.upcoming, state.asks, told, gone, picture_of(state.site, told))


def _checked(state):
    """Return this state if its answers can be true together."""
    picture = state.picture
    if not picture.fits:
        raise Contradiction(without_world(picture.site, picture.rows))
    return state


def _put(state, answer):
    """Return the state with this answer, instead of the one with its number if there is one."""
    told = dict(state.told)
    told[answer.number] = answer
    return _with_told(state, told, state.gone)


def _closed(state, number):
    """Return the state without this ask."""
    asks = {other: state.asks[other] for other in state.asks if other != number}
    return _with_asks(state, state.upcoming, asks)


def after_ask(state, source, spans, only):
    """Return the state behind the event that an ask is sent."""
    asks = dict(state.asks)
    asks[state.upcoming] = Ask(source, state.time + 1, only, spans)
    return later(_with_asks(state, state.upcoming + 1, asks), 1)


def after_answer(state, number, stage, mark, weak, size, until, names):
    """Return the state behind the event that an answer begins; one by changed tells only that it has no mark."""
    ask = state.asks[number]
    last = ask.sent if until is None else max(ask.sent, until)
    seen = ((ask.source, state.time + 1, last),)
    nots = (ask.only,) if stage == "changed" else ()
    answer = Answer(number, seen, stage, mark, weak, size, names, nots)
    return later(_checked(_put(_closed(state, number), answer)), 1)


def after_loss(state, number):
    """Return the state behind the event that no answer will come."""
    return later(_closed(state, number), 1)


def after_part(state, number, start, values):
    """Return the state behind the event that bytes of an answer arrive."""
    answer = state.told[number]
    runs = joined(answer.runs + ((start, values),))
    if runs is None:
        # An answer that told two different bytes at one position has no world by itself.
        raise Contradiction((number,))
    return later(_checked(_put(state, with_runs(answer, runs))), 1)


def after_end(state, number):
    """Return the state behind the event that no more parts will come."""
    return later(_put(state, with_stage(state.told[number], "ended")), 1)


def after_letting_go(state, number, spans):
    """Return the state when the bytes that an answer told at these positions are forgotten."""
    answer = state.told[number]
    return _put(state, with_runs(answer, cut_to(answer.runs, spans_of(answer.runs) - spans)))


def _sightings_of(answers):
    """Return the sightings of all these answers, one for each copy."""
    found = {}
    for answer in answers:
        for copy, first, last in answer.seen:
            before = found.get(copy, (first, last))
            found[copy] = (min(first, before[0]), max(last, before[1]))
    return tuple([(name, found[name][0], found[name][1]) for name in sorted(found)])


def group_of(state, number):
    """Return the answers of the group of an answer, ascending."""
    picture = state.picture
    return [picture.rows[place] for place in members(picture.steps.group(picture.place[number]))]


def after_fold(state, number):
    """Return the state when one answer stands for the group, of which no answer is open."""
    answers = group_of(state, number)
    least = answers[0].number
    stage = "changed" if all([row.stage == "changed" for row in answers]) else "ended"
    all_told = union(answers)
    told = {other: state.told[other] for other in state.told}
    gone = dict(state.gone)
    for answer in answers[1:]:
        del told[answer.number]
        gone[answer.number] = least
    told[least] = Answer(least, _sightings_of(answers), stage, all_told.mark, all_told.weak, all_told.size,
                         all_told.names, all_told.nots, all_told.runs)
    return _with_told(state, told, gone)


def present(state, number):
    """Return the number under which what was an answer's stands now."""
    while number in state.gone:
        number = state.gone[number]
    return number
