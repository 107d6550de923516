"""Values that the tests hand in, histories that they draw, and worlds that they lay out without the program."""

import random

from oneedition.errors import Contradiction, KeeperError
from oneedition.keeper import Keeper
from oneedition.spans import Spans
from oneedition.texts import show_keeper

HUGE = 10 ** 5000


def nested(depth):
    """Return a value that is nested so deep."""
    value = 3
    for level in range(depth):
        value = ([value], (value,), {"a": value})[level % 3]
    return value


def any_values():
    """Return values of each kind that "any value" means."""
    return [
        None, True, False, 0, 1, 3, -1, 999999, 1000000, HUGE, -HUGE, 2 ** 63, -2 ** 63 - 1,
        "", "a", "3", "ab", "(0, 4)",
        (), (0,), (0, 4), ("0", "4"), (True, 4), (None, None), (0, 4, 5), ((0, 4),), ((0, 4), (5, 6)),
        [], [0], [0, 4], [(0, 4)], [[]],
        {}, {0: 4}, {"start": 0, "stop": 4}, {(0, 4): [1]},
        ([0], {1: (2,)}), nested(20),
    ]


class Fact:
    """What one answer told, as a test keeps it; the places are its sightings (copy, first, last)."""

    def __init__(self, number, places, mark=None, weak=None, length=None, names=None, nots=(), told=None):
        self.number = number
        self.places = list(places)
        self.mark = mark
        self.weak = weak
        self.length = length
        self.names = names
        self.nots = set(nots)
        self.ended = False
        self.told = {position: {byte} for position, byte in (told or {}).items()}

    def copied(self):
        fact = Fact(self.number, self.places, self.mark, self.weak, self.length, self.names, self.nots)
        fact.told = {position: set(values) for position, values in self.told.items()}
        fact.ended = self.ended
        return fact


def above_of(copies):
    """Return, for each copy, the set of the copies that it is under."""
    followed = dict(copies)
    found = {}
    for name in followed:
        above, here = set(), name
        while here is not None:
            above.add(here)
            here = followed[here]
        found[name] = above
    return found


def is_not_newer_by_time(one, other, above):
    """Rule 3 for two facts."""
    return any(first <= last and upper in above[copy]
               for copy, first, _ in one.places for upper, _, last in other.places)


def agree(facts):
    """Rules 1 and 4 for facts of one edition."""
    for values in ([fact.mark for fact in facts], [fact.length for fact in facts], [fact.names for fact in facts]):
        if len(set(values) - {None}) > 1:
            return False
    if {fact.mark for fact in facts} & {mark for fact in facts for mark in fact.nots}:
        return False
    told = {}
    for fact in facts:
        for position, values in fact.told.items():
            told.setdefault(position, set()).update(values)
    if any(len(values) > 1 for values in told.values()):
        return False
    lengths = [fact.length for fact in facts if fact.length is not None]
    return not lengths or all(position < lengths[0] for position in told)


def names_agree(editions, piece):
    """The end of rule 4 for lists of facts, one for each edition."""
    told, sizes = {}, {}
    for facts in editions:
        for namer in facts:
            for k, name in enumerate(namer.names or ()):
                stop = min((k + 1) * piece, namer.length)
                sizes.setdefault((k, name), set()).add(stop - k * piece)
                for fact in facts:
                    for position in range(k * piece, stop):
                        told.setdefault((name, position), set()).update(fact.told.get(position, ()))
    return all(len(values) <= 1 for values in told.values()) and all(len(values) == 1 for values in sizes.values())


def worlds(facts, above, piece):
    """Yield all worlds, by rules 1 to 4 alone: lists of (edition, meaning) for facts; the integers begin with 0."""
    many = len(facts)
    blocked = [sum(1 << at for at, old in enumerate(facts)
                   if is_not_newer_by_time(new, old, above) or new.mark is not None and new.mark == old.mark)
               for new in facts]

    def words_of(block):
        return {facts[at].weak for at in block} - {None}

    def lay(rest, editions, meanings, past, here):
        if not rest:
            if names_agree([[facts[at] for at in block] for block in editions], piece):
                found = [None] * many
                for edition, block in enumerate(editions):
                    for at in block:
                        found[at] = (edition, meanings[edition])
                yield found
            return
        chosen = rest
        while chosen:
            block = [at for at in range(many) if chosen >> at & 1]
            left = rest ^ chosen
            if agree([facts[at] for at in block]) and not any(
                    left >> at & 1 and blocked[at] & chosen for at in range(many)):
                words = words_of(block)
                if not words & past and len(words | here) <= 1 and editions:
                    yield from lay(left, editions + [block], meanings + [meanings[-1]], past, words | here)
                if not words & (past | here) and len(words) <= 1:
                    newer = meanings[-1] + 1 if editions else 0
                    yield from lay(left, editions + [block], meanings + [newer], past | here, words)
            chosen = (chosen - 1) & rest

    yield from lay((1 << many) - 1, [], [], set(), set())


def has_world(facts, above, piece):
    return next(worlds(facts, above, piece), None) is not None


def core(facts, above, piece):
    """Return the numbers of Contradiction for facts without a world."""
    kept = list(facts)
    for fact in facts:
        fewer = [other for other in kept if other is not fact]
        if not has_world(fewer, above, piece):
            kept = fewer
    return tuple(fact.number for fact in kept)


def word_of(one, other):
    return "older" if one < other else "newer" if one > other else "same"


class Log:
    """A keeper, and beside it what a test knows of its answers without asking it."""

    def __init__(self, copies, piece=4):
        self.keeper = Keeper(copies, piece=piece)
        self.copies, self.piece, self.above = copies, piece, above_of(copies)
        self.time, self.next, self.asks, self.facts = 0, 0, {}, {}

    def rows(self):
        return [self.facts[number] for number in sorted(self.facts)]

    def worlds(self, *ghosts):
        return worlds(self.rows() + list(ghosts), self.above, self.piece)

    def wait(self, many):
        self.keeper.wait(many)
        self.time += many

    def ask(self, copy, spans=None, only=None):
        number = self.keeper.ask(copy, spans, only=only)
        assert number == self.next
        self.time += 1
        self.next += 1
        self.asks[number] = (copy, self.time, only)
        return number

    def lost(self, number):
        self.keeper.lost(number)
        self.time += 1
        del self.asks[number]

    def attempt(self, test, fact, deed):
        """Do a deed by which this fact is told; check whether it is refused as it must be, by all worlds."""
        rows = [old for old in self.rows() if old.number != fact.number] + [fact]
        rows.sort(key=lambda row: row.number)
        before = show_keeper(self.keeper)
        if has_world(rows, self.above, self.piece):
            deed()
            self.facts[fact.number] = fact
            self.time += 1
            test.assertEqual(self.keeper.now, self.time)
            return True
        with test.assertRaises(Contradiction) as context:
            deed()
        test.assertEqual(context.exception.numbers, core(rows, self.above, self.piece))
        test.assertEqual(show_keeper(self.keeper), before)
        return False

    def head(self, test, number, mark=None, weak=None, length=None, until=None, names=None):
        copy, sent, only = self.asks[number]
        own = only if mark is None else mark
        fact = Fact(number, [(copy, self.time + 1, max(sent, until or 0))], own, weak, length, names)
        done = self.attempt(test, fact, lambda: self.keeper.head(
            number, mark=mark, weak=weak, length=length, until=until, names=names))
        if done:
            del self.asks[number]
        return done

    def changed(self, test, number):
        copy, sent, only = self.asks[number]
        fact = Fact(number, [(copy, self.time + 1, sent)], nots=[only])
        done = self.attempt(test, fact, lambda: self.keeper.changed(number))
        if done:
            del self.asks[number]
        return done

    def part(self, test, number, start, values):
        fact = self.facts[number].copied()
        for position, byte in enumerate(values, start):
            fact.told.setdefault(position, set()).add(byte)
        return self.attempt(test, fact, lambda: self.keeper.part(number, start, values))

    def let_go(self, number, spans):
        self.keeper.let_go(number, spans)
        self.facts[number].told = {at: told for at, told in self.facts[number].told.items() if at not in spans}

    def end(self, number):
        self.keeper.ended(number)
        self.facts[number].ended = True
        self.time += 1

    def ghost(self, copy, first, last, mark=None):
        return Fact(-1, [(copy, first, last)], mark)


COPIES = [
    (("x", None),),
    (("x", None), ("y", "x")),
    (("x", None), ("z", None)),
    (("x", None), ("y", "x"), ("z", None)),
    (("x", None), ("y", "x"), ("z", "y")),
    (("a", "c"), ("b", "c"), ("c", None)),
]


class Drawn:
    """A drawn history of few answers, in a Log; some of what is drawn is refused as a contradiction."""

    def __init__(self, test, seed, most, kinds="marks weaks bytes lengths names promises changed".split(), often=()):
        self.test, self.draw, self.most, self.kinds = test, random.Random(seed), most, kinds
        self.log = Log(self.draw.choice(COPIES), self.draw.choice((1, 2)))
        self.likely = {kind: self.draw.choice((0.0, 0.4, 0.8)) if kind in kinds else 0.0
                       for kind in ("marks", "weaks", "bytes", "lengths", "names", "promises", "changed", "drops", "ends")}
        self.likely.update({kind: 0.8 for kind in often})
        self.words = self.draw.choice((2, 3))

    def has(self, kind):
        return self.draw.random() < self.likely[kind]

    def word(self, letter):
        return f"{letter}{self.draw.randrange(self.words)}"

    def run(self, steps=None):
        for _ in range(steps or self.draw.choice((15, 25, 40))):
            self.step()
        return self.log

    def step(self):
        log, draw = self.log, self.draw
        kind = draw.random()
        if kind < 0.1:
            log.wait(draw.randint(1, 3))
        elif kind < 0.4 and len(log.facts) + len(log.asks) < self.most:
            log.ask(draw.choice(log.copies)[0], only=self.word("m") if self.has("changed") else None)
        elif kind < 0.7 and log.asks:
            self.answer(draw.choice(sorted(log.asks)))
        elif log.facts:
            number = draw.choice(sorted(log.facts))
            if self.has("drops") and draw.random() < 0.4:
                log.let_go(number, Spans((draw.randrange(3), 3)))
            elif not log.facts[number].nots and not log.facts[number].ended:
                if self.has("ends"):
                    log.end(number)
                elif self.has("bytes"):
                    self.part(number)

    def answer(self, number):
        log, draw = self.log, self.draw
        only = log.asks[number][2]
        if only is not None and draw.random() < 0.5:
            log.changed(self.test, number)
            return
        mark = only or (self.word("m") if self.has("marks") else None)
        length = draw.randint(0, 4) if self.has("lengths") else None
        names = None
        if length is not None and self.has("names"):
            names = tuple(self.word("p") for _ in range(-(-length // log.piece)))
        log.head(self.test, number, mark, self.word("w") if self.has("weaks") else None, length,
                 log.time + draw.randint(1, 6) if self.has("promises") else None, names)

    def part(self, number):
        draw = self.draw
        many = draw.randint(1, 2)
        self.log.part(self.test, number, draw.randrange(4), tuple(draw.randrange(2) for _ in range(many)))


# What no parameter but those for bytes, names, numbers or words takes.
STRANGE = [None, True, False, 0, 1, -1, HUGE, -HUGE, "", "no such", "M1", "m_1", "0", "toolongword", "\xe4", "\u0661",
           (), (0,), (1, 2), [], [0], {}, {0: 1}, ("m1",), ["m1"], {"m1": 1}, nested(20)]


def shown(keeper):
    """Return all of a keeper that an event changes."""
    return show_keeper(keeper), keeper.now, keeper.open_asks, keeper.answers


def check_refused(test, keeper, error_class, value, deed):
    """Check that a deed raises just this error with just this value, and changes nothing."""
    before = shown(keeper)
    with test.assertRaises(KeeperError) as context:
        deed()
    error = context.exception
    test.assertIs(type(error), error_class)
    kept = list(vars(error).values())
    test.assertEqual(len(kept), 1)
    test.assertIs(type(kept[0]), type(value))
    test.assertEqual(kept[0], value)
    test.assertEqual(shown(keeper), before)


def strange_but(*good):
    """Return any values without these."""
    kinds = [(type(value), value) for value in good]
    return [value for value in any_values() + STRANGE if (type(value), value) not in kinds]


class Known:
    """What is known of editions by the facts of a log, without the program but for its groups (tested by themselves)."""

    def __init__(self, log):
        self.log, self.facts, self.piece = log, log.facts, log.piece
        self.groups = {number: group for group in log.keeper.groups() for number in group}

    def values(self, number, name):
        found = {getattr(self.facts[other], name) for other in self.groups[number]} - {None}
        assert len(found) <= 1
        return found.pop() if found else None

    def tellers(self, number, position):
        """The answers of a group that told the byte at a position, which they have not let go."""
        return [other for other in self.groups[number] if position in self.facts[other].told]

    def name_at(self, number, position):
        """The name that one answer told for the piece with this position."""
        names = self.facts[number].names or ()
        return names[position // self.piece] if position // self.piece < len(names) else None

    def grounds(self, number, position):
        """All grounds for a byte of an answer's edition."""
        found = {(other,) for other in self.tellers(number, position)}
        for namer in self.groups[number]:
            for other in self.facts:
                name = self.name_at(namer, position)
                if name is not None and name == self.name_at(other, position):
                    found |= {(namer, other, teller) for teller in self.tellers(other, position)}
        return found

    def bytes(self, number, positions=range(8)):
        """The known bytes of an answer's edition."""
        found = {}
        for position in positions:
            grounds = self.grounds(number, position)
            if grounds:
                found[position], = {byte for ground in grounds for byte in self.facts[ground[-1]].told[position]}
        return found

    def differ(self, one, other):
        """Whether two answers are different, by what is known of their editions."""
        for name in ("mark", "weak", "length", "names"):
            values = {self.values(one, name), self.values(other, name)} - {None}
            if len(values) > 1:
                return True
        for first, second in ((one, other), (other, one)):
            nots = {mark for number in self.groups[second] for mark in self.facts[number].nots}
            length = self.values(second, "length")
            if self.values(first, "mark") in nots:
                return True
            if length is not None and any(position >= length for position in self.bytes(first)):
                return True
        mine, theirs = self.bytes(one), self.bytes(other)
        return any(mine[position] != theirs[position] for position in mine if position in theirs)

    def is_number(self, value):
        return type(value) is int and value in self.facts

    def step(self, one, other, weak):
        """Whether a step leads from one answer to another, over the weak mark too or not."""
        first, second = self.facts[one], self.facts[other]
        if one == other:
            return False
        return (is_not_newer_by_time(first, second, self.log.above)
                or first.mark is not None and first.mark == second.mark
                or weak and first.weak is not None and first.weak == second.weak)

    def path(self, starts, goals, weak=True):
        """Some answers over which steps lead from the starts to the goals, None if they do not."""
        paths = [(start,) for start in starts]
        for path in paths:
            if path[-1] in goals:
                return path
            seen = {number for other in paths for number in other}
            paths += [path + (number,) for number in self.facts
                      if number not in seen and self.step(path[-1], number, weak)]
        return None

    def candidates(self, a, b, word):
        """Values that have the form of evidence, with good ways over any two answers; they may be evidence or not."""
        found = []
        for v in self.facts:
            for w in self.facts:
                starts, goals = ([a], [b]) if word == "newer" else ([b], [a]) if word == "older" else ([a, b], [a, b])
                ends = ((starts, [v]), ([v], goals), (starts, [w]), ([w], goals))
                ways = tuple(self.path(*end) for end in ends)
                if None not in ways and word == "same":
                    found.append(("meaning", v, w, ways))
                elif None not in ways:
                    found.append(((starts[0], goals[0], (v, w, ways)),))
                paths = [self.path(*end, False) for end in ends]
                if None not in paths and word == "same":
                    found.append(("edition", v, w, tuple(
                        tuple((one, other, None) for one, other in zip(path, path[1:])) for path in paths)))
        return found

    def is_way(self, value, starts, goals):
        return (type(value) is tuple and len(value) > 0 and all(self.is_number(number) for number in value)
                and value[0] in starts and value[-1] in goals
                and all(self.step(one, other, True) for one, other in zip(value, value[1:])))

    def is_meaning(self, v, w, ways, starts, goals):
        if not self.is_number(v) or not self.is_number(w) or type(ways) is not tuple or len(ways) != 4:
            return False
        if len({self.facts[v].weak, self.facts[w].weak} - {None}) != 2:
            return False
        ends = [(starts, [v]), ([v], goals), (starts, [w]), ([w], goals)]
        return all(self.is_way(way, *end) for way, end in zip(ways, ends))

    def is_link(self, link):
        if type(link) is not tuple or len(link) != 3:
            return False
        start, stop, ground = link
        if not self.is_number(start) or not self.is_number(stop) or start == stop:
            return False
        if ground is None:
            return self.step(start, stop, False)
        return type(ground) is tuple and len(ground) == 3 and self.is_meaning(*ground, [start], [stop])

    def is_chain(self, value, starts, goals):
        if type(value) is not tuple or not all(self.is_link(link) for link in value):
            return False
        if not value:
            return bool(set(starts) & set(goals))
        return (value[0][0] in starts and value[-1][1] in goals
                and all(one[1] == other[0] for one, other in zip(value, value[1:])))

    def is_reason(self, a, b, word, value):
        """What shows_reason must tell."""
        if word != "same":
            return self.is_chain(value, *(([a], [b]) if word == "newer" else ([b], [a])))
        if type(value) is not tuple or len(value) != 4:
            return False
        kind, v, w, told = value
        if type(kind) is str and kind == "meaning":
            return self.is_meaning(v, w, told, [a, b], [a, b])
        if type(kind) is not str or kind != "edition" or not self.is_number(v) or not self.is_number(w):
            return False
        ends = [([a, b], [v]), ([v], [a, b]), ([a, b], [w]), ([w], [a, b])]
        return (self.differ(v, w) and type(told) is tuple and len(told) == 4
                and all(self.is_chain(chain, *end) for chain, end in zip(told, ends)))

    def is_world(self, a, b, word, value):
        """What shows_world must tell."""
        facts = self.log.rows()
        if type(value) is not tuple or len(value) != len(facts):
            return False
        for fact, row in zip(facts, value):
            if type(row) is not tuple or [type(number) for number in row] != [int] * 3 or row[0] != fact.number:
                return False
        for one, (_, edition, meaning) in zip(facts, value):
            for other, (_, another, unlike) in zip(facts, value):
                told = [None not in words and words[0] == words[1] for words in
                        ((one.mark, other.mark), (one.weak, other.weak))]
                apart = [None not in words and words[0] != words[1] for words in
                         ((one.mark, other.mark), (one.weak, other.weak))]
                if (told[0] and edition != another or apart[0] and edition == another
                        or one.mark in other.nots and edition == another
                        or edition == another and meaning != unlike or edition > another and meaning < unlike
                        or told[1] and meaning != unlike or apart[1] and meaning == unlike
                        or edition > another and is_not_newer_by_time(one, other, self.log.above)):
                    return False
        editions = {}
        for fact, row in zip(facts, value):
            editions.setdefault(row[1], []).append(fact)
        if not all(agree(rows) for rows in editions.values()) or not names_agree(editions.values(), self.piece):
            return False
        found = {row[0]: row[1] for row in value}
        return word_of(found[a], found[b]) == word


def variants(value, numbers):
    """Return values with one part otherwise."""
    if type(value) is tuple:
        found = [list(value), value + value[-1:], (value,), value[:-1], value[::-1]]
        for at, part in enumerate(value):
            found += [value[:at] + value[at + 1:], value[:at] + (part,) + value[at:]]
            found += [value[:at] + (other,) + value[at + 1:] for other in variants(part, numbers)]
        return [other for other in found if type(other) is not tuple or other != value]
    if type(value) is int:
        return [number for number in numbers if number != value] + [value == 1, None, str(value), (value,), HUGE, -1]
    if value is None:
        return [(), 0, False, "", (0, 1, ((0,), (0,), (0,), (0,)))]
    return ["edition", "meaning", "", None, 0]


class Edition:
    """A hidden edition."""

    def __init__(self, number, meaning, values, names):
        self.number, self.meaning, self.values, self.names = number, meaning, values, names
        self.mark, self.weak = f"m{number}", f"w{meaning}"


class Hidden:
    """A hidden truth: editions that come up, copies that take them over, and answers that tell what is true of them.

    What happens between two events happens ahead of the later one, behind the moment of the time of the earlier one.
    """

    def __init__(self, seed, copies, piece):
        self.draw, self.copies, self.piece = random.Random(seed), dict(copies), piece
        self.editions, self.named = [], {}
        self.add_edition()
        self.now = 0
        self.at = {copy: 0 for copy in self.copies}
        self.kept_until = {copy: 0 for copy in self.copies}
        # What each copy had, with the time behind which it had it.
        self.had = {copy: [(0, 0)] for copy in self.copies}
        self.under_way, self.answers = {}, {}
        self.busy = self.draw.choice((0.02, 0.08, 0.2))
        self.likely = {kind: self.draw.choice((0.2, 0.5, 0.9)) for kind in
                       ("mark", "weak", "length", "names", "promise", "only")}

    def add_edition(self):
        """Add an edition that is new, but for most of its bytes."""
        draw = self.draw
        if not self.editions:
            values, meaning = [draw.randrange(9) for _ in range(draw.randint(3, 12))], 0
        else:
            last = self.editions[-1]
            values, meaning = list(last.values), last.meaning + (draw.random() < 0.4)
            for _ in range(draw.randint(1, 2)):
                if values:
                    values[draw.randrange(len(values))] = draw.randrange(9)
            if draw.random() < 0.3:
                values = (values + [draw.randrange(9)] * 2)[:draw.randint(0, len(values) + 2)]
        names = tuple(self.name_of(k, tuple(values[k:k + self.piece])) for k in range(0, len(values), self.piece))
        self.editions.append(Edition(len(self.editions), meaning, tuple(values), names))

    def name_of(self, start, values):
        """The name of a piece: the same just for the same bytes at the same place."""
        table = self.named.setdefault(start, {})
        return table.setdefault(values, f"p{len(table)}")

    def has(self, kind):
        return self.draw.random() < self.likely[kind]

    def gap(self):
        """Let things happen ahead of the next event."""
        draw = self.draw
        if draw.random() < self.busy:
            self.add_edition()
        for _ in range(3):
            for copy in self.copies:
                if draw.random() < self.busy * 2 and self.kept_until[copy] <= self.now:
                    self.move(copy)
            for number in self.under_way:
                if draw.random() < 0.3:
                    self.make(number)

    def move(self, copy):
        """Let a copy take over an edition that is not older than its own."""
        above = self.copies[copy]
        choice = range(len(self.editions)) if above is None else [edition for _, edition in self.had[above]]
        better = [edition for edition in choice if edition >= self.at[copy]]
        self.at[copy] = self.draw.choice(better)
        self.had[copy].append((self.now, self.at[copy]))

    def make(self, number):
        """Let an answer be made, if it is not made yet."""
        copy, only, edition, _ = self.under_way[number]
        if edition is None:
            until = None
            if self.has("promise"):
                until = self.now + self.draw.randint(1, 12)
                self.kept_until[copy] = max(self.kept_until[copy], until)
            self.under_way[number] = (copy, only, self.editions[self.at[copy]], until)

    def had_since(self, copy, begun):
        """The editions that a copy had at moments from this time to now."""
        times = [time for time, _ in self.had[copy]]
        # A move behind a time is a move ahead of the next one; the last one of a time before stands at the time.
        first = max(at for at, time in enumerate(times) if time < begun or at == 0)
        return {edition for _, edition in self.had[copy][first:]}

    def event(self, most):
        """Return what happens next, as a name and arguments for a keeper, or None."""
        draw, kind = self.draw, self.draw.random()
        self.gap()
        flowing = [number for number, told in self.answers.items() if told["flows"]]
        asked = len(self.answers) + len(self.under_way) + self.lost_many
        if kind < 0.3 and asked < most:
            copy = draw.choice(sorted(self.copies))
            only = draw.choice(self.editions[-3:]).mark if self.has("only") else None
            spans = None if draw.random() < 0.5 else Spans((0, 3))
            self.under_way[asked] = (copy, only, None, None)
            return "ask", (copy, spans), {"only": only}
        if kind < 0.65 and self.under_way:
            return self.answer(draw.choice(sorted(self.under_way)))
        if kind < 0.9 and flowing:
            number = draw.choice(flowing)
            if draw.random() < 0.3:
                self.answers[number]["flows"] = False
                return "ended", (number,), {}
            return self.part(number)
        return "wait", (draw.randint(1, 3),), {}

    def answer(self, number):
        draw = self.draw
        if draw.random() < 0.05:
            del self.under_way[number]
            self.lost_many += 1
            return "lost", (number,), {}
        self.make(number)
        copy, only, edition, until = self.under_way.pop(number)
        told = {"edition": edition, "copy": copy, "flows": False}
        self.answers[number] = told
        if only is not None and only != edition.mark:
            return "changed", (number,), {}
        told["flows"] = True
        words = {"mark": edition.mark if self.has("mark") else None, "weak": edition.weak if self.has("weak") else None}
        if self.has("length"):
            words["length"] = len(edition.values)
            words["names"] = edition.names if self.has("names") else None
        if until is not None and until > self.now:
            words["until"] = until
        return "head", (number,), words

    def part(self, number):
        values = self.answers[number]["edition"].values
        if not values:
            return "wait", (1,), {}
        start = self.draw.randrange(len(values))
        return "part", (number, start, values[start:start + self.draw.randint(1, 5)]), {}

    lost_many = 0

    def passes(self, keeper_now):
        """Let the moments of a wait go by one by one."""
        while self.now < keeper_now:
            self.now += 1
            if self.now < keeper_now:
                self.gap()
