"""Values that the tests hand in, histories that they draw, and worlds that they lay out without the program."""

import random

from oneedition.errors import Contradiction
from oneedition.keeper import Keeper
from oneedition.spans import Spans
from oneedition.texts import show_keeper

HUGE = 10 ** 5000


def nested(depth):
    """Return a value that is nested so deep."""
    value = 3
    for level in range(depth):
        value = ([value], (value,), {"a": value})[level % 3]
    return value


def any_values():
    """Return values of each kind that "any value" means."""
    return [
        None, True, False, 0, 1, 3, -1, 999999, 1000000, HUGE, -HUGE, 2 ** 63, -2 ** 63 - 1,
        "", "a", "3", "ab", "(0, 4)",
        (), (0,), (0, 4), ("0", "4"), (True, 4), (None, None), (0, 4, 5), ((0, 4),), ((0, 4), (5, 6)),
        [], [0], [0, 4], [(0, 4)], [[]],
        {}, {0: 4}, {"start": 0, "stop": 4}, {(0, 4): [1]},
        ([0], {1: (2,)}), nested(20),
    ]


class Fact:
    """What one answer told, as a test keeps it; the places are its sightings (copy, first, last)."""

    def __init__(self, number, places, mark=None, weak=None, length=None, names=None, nots=(), told=None):
        self.number = number
        self.places = list(places)
        self.mark = mark
        self.weak = weak
        self.length = length
        self.names = names
        self.nots = set(nots)
        self.told = {position: {byte} for position, byte in (told or {}).items()}

    def copied(self):
        fact = Fact(self.number, self.places, self.mark, self.weak, self.length, self.names, self.nots)
        fact.told = {position: set(values) for position, values in self.told.items()}
        return fact


def above_of(copies):
    """Return, for each copy, the set of the copies that it is under."""
    followed = dict(copies)
    found = {}
    for name in followed:
        above, here = set(), name
        while here is not None:
            above.add(here)
            here = followed[here]
        found[name] = above
    return found


def is_not_newer_by_time(one, other, above):
    """Rule 3 for two facts."""
    return any(first <= last and upper in above[copy]
               for copy, first, _ in one.places for upper, _, last in other.places)


def agree(facts):
    """Rules 1 and 4 for facts of one edition."""
    for values in ([fact.mark for fact in facts], [fact.length for fact in facts], [fact.names for fact in facts]):
        if len(set(values) - {None}) > 1:
            return False
    if {fact.mark for fact in facts} & {mark for fact in facts for mark in fact.nots}:
        return False
    told = {}
    for fact in facts:
        for position, values in fact.told.items():
            told.setdefault(position, set()).update(values)
    if any(len(values) > 1 for values in told.values()):
        return False
    lengths = [fact.length for fact in facts if fact.length is not None]
    return not lengths or all(position < lengths[0] for position in told)


def names_agree(editions, piece):
    """The end of rule 4 for lists of facts, one for each edition."""
    told, sizes = {}, {}
    for facts in editions:
        for namer in facts:
            for k, name in enumerate(namer.names or ()):
                stop = min((k + 1) * piece, namer.length)
                sizes.setdefault((k, name), set()).add(stop - k * piece)
                for fact in facts:
                    for position in range(k * piece, stop):
                        told.setdefault((name, position), set()).update(fact.told.get(position, ()))
    return all(len(values) <= 1 for values in told.values()) and all(len(values) == 1 for values in sizes.values())


def worlds(facts, above, piece):
    """Yield all worlds, by rules 1 to 4 alone: lists of (edition, meaning) for facts; the integers begin with 0."""
    many = len(facts)
    blocked = [sum(1 << at for at, old in enumerate(facts)
                   if is_not_newer_by_time(new, old, above) or new.mark is not None and new.mark == old.mark)
               for new in facts]

    def words_of(block):
        return {facts[at].weak for at in block} - {None}

    def lay(rest, editions, meanings, past, here):
        if not rest:
            if names_agree([[facts[at] for at in block] for block in editions], piece):
                found = [None] * many
                for edition, block in enumerate(editions):
                    for at in block:
                        found[at] = (edition, meanings[edition])
                yield found
            return
        chosen = rest
        while chosen:
            block = [at for at in range(many) if chosen >> at & 1]
            left = rest ^ chosen
            if agree([facts[at] for at in block]) and not any(
                    left >> at & 1 and blocked[at] & chosen for at in range(many)):
                words = words_of(block)
                if not words & past and len(words | here) <= 1 and editions:
                    yield from lay(left, editions + [block], meanings + [meanings[-1]], past, words | here)
                if not words & (past | here) and len(words) <= 1:
                    newer = meanings[-1] + 1 if editions else 0
                    yield from lay(left, editions + [block], meanings + [newer], past | here, words)
            chosen = (chosen - 1) & rest

    yield from lay((1 << many) - 1, [], [], set(), set())


def has_world(facts, above, piece):
    return next(worlds(facts, above, piece), None) is not None


def core(facts, above, piece):
    """Return the numbers of Contradiction for facts without a world."""
    kept = list(facts)
    for fact in facts:
        fewer = [other for other in kept if other is not fact]
        if not has_world(fewer, above, piece):
            kept = fewer
    return tuple(fact.number for fact in kept)


def word_of(one, other):
    return "older" if one < other else "newer" if one > other else "same"


class Log:
    """A keeper, and beside it what a test knows of its answers without asking it."""

    def __init__(self, copies, piece=4):
        self.keeper = Keeper(copies, piece=piece)
        self.copies, self.piece, self.above = copies, piece, above_of(copies)
        self.time, self.next, self.asks, self.facts = 0, 0, {}, {}

    def rows(self):
        return [self.facts[number] for number in sorted(self.facts)]

    def worlds(self, *ghosts):
        return worlds(self.rows() + list(ghosts), self.above, self.piece)

    def wait(self, many):
        self.keeper.wait(many)
        self.time += many

    def ask(self, copy, spans=None, only=None):
        number = self.keeper.ask(copy, spans, only=only)
        assert number == self.next
        self.time += 1
        self.next += 1
        self.asks[number] = (copy, self.time, only)
        return number

    def lost(self, number):
        self.keeper.lost(number)
        self.time += 1
        del self.asks[number]

    def attempt(self, test, fact, deed):
        """Do a deed by which this fact is told; check whether it is refused as it must be, by all worlds."""
        rows = [old for old in self.rows() if old.number != fact.number] + [fact]
        rows.sort(key=lambda row: row.number)
        before = show_keeper(self.keeper)
        if has_world(rows, self.above, self.piece):
            deed()
            self.facts[fact.number] = fact
            self.time += 1
            test.assertEqual(self.keeper.now, self.time)
            return True
        with test.assertRaises(Contradiction) as context:
            deed()
        test.assertEqual(context.exception.numbers, core(rows, self.above, self.piece))
        test.assertEqual(show_keeper(self.keeper), before)
        return False

    def head(self, test, number, mark=None, weak=None, length=None, until=None, names=None):
        copy, sent, only = self.asks[number]
        own = only if mark is None else mark
        fact = Fact(number, [(copy, self.time + 1, max(sent, until or 0))], own, weak, length, names)
        done = self.attempt(test, fact, lambda: self.keeper.head(
            number, mark=mark, weak=weak, length=length, until=until, names=names))
        if done:
            del self.asks[number]
        return done

    def changed(self, test, number):
        copy, sent, only = self.asks[number]
        fact = Fact(number, [(copy, self.time + 1, sent)], nots=[only])
        done = self.attempt(test, fact, lambda: self.keeper.changed(number))
        if done:
            del self.asks[number]
        return done

    def part(self, test, number, start, values):
        fact = self.facts[number].copied()
        for position, byte in enumerate(values, start):
            fact.told.setdefault(position, set()).add(byte)
        return self.attempt(test, fact, lambda: self.keeper.part(number, start, values))

    def let_go(self, number, spans):
        self.keeper.let_go(number, spans)
        self.facts[number].told = {at: told for at, told in self.facts[number].told.items() if at not in spans}

    def ghost(self, copy, first, last, mark=None):
        return Fact(-1, [(copy, first, last)], mark)


COPIES = [
    (("x", None),),
    (("x", None), ("y", "x")),
    (("x", None), ("z", None)),
    (("x", None), ("y", "x"), ("z", None)),
    (("x", None), ("y", "x"), ("z", "y")),
    (("a", "c"), ("b", "c"), ("c", None)),
]


class Drawn:
    """A drawn history of few answers, in a Log; some of what is drawn is refused as a contradiction."""

    def __init__(self, test, seed, most, kinds="marks weaks bytes lengths names promises changed".split()):
        self.test, self.draw, self.most, self.kinds = test, random.Random(seed), most, kinds
        self.log = Log(self.draw.choice(COPIES), self.draw.choice((1, 2)))
        self.likely = {kind: self.draw.choice((0.0, 0.3, 0.6)) if kind in kinds else 0.0
                       for kind in ("marks", "weaks", "bytes", "lengths", "names", "promises", "changed", "drops")}
        self.words = self.draw.choice((2, 3))

    def has(self, kind):
        return self.draw.random() < self.likely[kind]

    def word(self, letter):
        return f"{letter}{self.draw.randrange(self.words)}"

    def run(self, steps=60):
        for _ in range(steps):
            self.step()
            if len(self.log.facts) >= self.most and not self.log.asks:
                break
        return self.log

    def step(self):
        log, draw = self.log, self.draw
        kind = draw.random()
        if kind < 0.1:
            log.wait(draw.randint(1, 3))
        elif kind < 0.45 and len(log.facts) + len(log.asks) < self.most:
            log.ask(draw.choice(log.copies)[0], only=self.word("m") if self.has("changed") else None)
        elif kind < 0.8 and log.asks:
            self.answer(draw.choice(sorted(log.asks)))
        elif log.facts:
            number = draw.choice(sorted(log.facts))
            if self.has("drops"):
                log.let_go(number, Spans((draw.randrange(3), 3)))
            elif self.has("bytes") and not log.facts[number].nots:
                self.part(number)

    def answer(self, number):
        log, draw = self.log, self.draw
        only = log.asks[number][2]
        if only is not None and draw.random() < 0.5:
            log.changed(self.test, number)
            return
        mark = only or (self.word("m") if self.has("marks") else None)
        length = draw.randint(0, 4) if self.has("lengths") else None
        names = None
        if length is not None and self.has("names"):
            names = tuple(self.word("p") for _ in range(-(-length // log.piece)))
        log.head(self.test, number, mark, self.word("w") if self.has("weaks") else None, length,
                 log.time + draw.randint(1, 6) if self.has("promises") else None, names)

    def part(self, number):
        draw = self.draw
        many = draw.randint(1, 2)
        self.log.part(self.test, number, draw.randrange(4), tuple(draw.randrange(2) for _ in range(many)))
