"""Point 17: texts, what is read and what is not, and equality of keepers."""

import random
import re
import unittest

from oneedition.errors import BadText
from oneedition.keeper import Keeper
from oneedition.spans import Spans
from oneedition.texts import read_keeper, show_keeper
from tests.helper import Drawn, Fact, above_of, any_values, has_world, strange_but

XYZ = (("x", None), ("y", "x"), ("z", None))

N, WORD, NAME = "(0|[1-9][0-9]{0,9})", "[a-z0-9]{1,8}", "[a-z]{1,8}"
FORMS = {
    "piece": f"piece {N}", "copy": f"copy ({NAME}) (-|{NAME})", "now": f"now {N}", "next": f"next {N}",
    "ask": f"ask {N} ({NAME}) {N} (-|{WORD}) (all|-|[0-9.,]+)", "answer": f"answer {N} (open|ended|changed)",
    "at": f"at ({NAME}) {N} {N}", "mark": f"mark ({WORD})", "weak": f"weak ({WORD})", "length": f"length {N}",
    "names": f"names((?: {WORD})*)", "not": f"not((?: {WORD})+)", "bytes": f"bytes {N}((?: {N})+)",
}
# What may stand behind a line, but for what hangs on the state of an answer.
BEHIND_ALL = ["answer", "end"]
BEHIND = {
    None: ["piece"], "piece": ["copy"], "copy": ["copy", "now"], "now": ["next"], "next": ["ask"] + BEHIND_ALL,
    "ask": ["ask"] + BEHIND_ALL, "answer": ["at"],
    "at": ["at", "mark", "weak", "length", "names", "not", "bytes"] + BEHIND_ALL,
    "mark": ["weak", "length", "names", "not", "bytes"] + BEHIND_ALL,
    "weak": ["length", "names", "not", "bytes"] + BEHIND_ALL, "length": ["names", "not", "bytes"] + BEHIND_ALL,
    "names": ["not", "bytes"] + BEHIND_ALL, "not": ["bytes"] + BEHIND_ALL, "bytes": ["bytes"] + BEHIND_ALL,
}


class Judge:
    """Finds the line that BadText must name, line by line, without the program."""

    def __init__(self):
        self.before, self.copies, self.asks, self.facts, self.fact = None, [], [], [], None

    def first_bad(self, text):
        lines = text.split("\n")
        for at, line in enumerate(lines):
            if not self.takes(line):
                return at
        return None if "end" in self.allowed() else len(lines)

    def allowed(self):
        """The kinds of lines that may stand here."""
        if self.fact is not None and self.fact.stage == "changed":
            return {"answer": ["at"], "at": ["at", "not"], "not": BEHIND_ALL}[self.before]
        return BEHIND[self.before]

    def takes(self, line):
        kind = line.split(" ")[0]
        if kind not in self.allowed() or not re.fullmatch(FORMS[kind], line) or line != line.strip():
            return False
        parts = re.fullmatch(FORMS[kind], line).groups()
        if not getattr(self, "take_" + kind.replace("not", "nots"))(*parts):
            return False
        self.before = kind
        return not self.facts or has_world(self.facts, self.above, self.piece)

    def take_piece(self, number):
        self.piece = int(number)
        return 1 <= self.piece <= 64

    def take_copy(self, name, followed):
        self.copies.append((name, None if followed == "-" else followed))
        return len(self.copies) <= 6 and sorted({pair[0] for pair in self.copies}) == [pair[0] for pair in self.copies]

    def take_now(self, number):
        followed = dict(self.copies)
        for name in followed:
            seen = []
            while name is not None:
                if name not in followed or name in seen:
                    return False
                seen.append(name)
                name = followed[name]
        self.now, self.above = int(number), above_of(tuple(self.copies))
        return True

    def take_next(self, number):
        self.next = int(number)
        return True

    def take_ask(self, number, copy, sent, only, spans):
        number, sent = int(number), int(sent)
        if spans not in ("all", "-"):
            pairs = [part.split("..") for part in spans.split(",")]
            if not all(len(pair) == 2 and all(re.fullmatch(N, word) for word in pair) for pair in pairs):
                return False
            flat = [int(word) for pair in pairs for word in pair]
            if flat != sorted(set(flat)) or flat[-1] > 1000000:
                return False
        good = number < self.next and all(other < number for other in self.asks) and copy in self.above
        self.asks.append(number)
        return good and 1 <= sent <= self.now

    def take_answer(self, number, stage):
        number = int(number)
        good = number < self.next and number not in self.asks and all(fact.number < number for fact in self.facts)
        self.fact = Fact(number, [])
        self.fact.stage = stage
        self.facts.append(self.fact)
        return good

    def take_at(self, copy, first, last):
        places = self.fact.places
        good = copy in self.above and all(place[0] < copy for place in places)
        places.append((copy, int(first), int(last)))
        return good and 1 <= int(first) <= self.now and 1 <= int(last) <= 10 ** 9

    def take_mark(self, word):
        self.fact.mark = word
        return True

    def take_weak(self, word):
        self.fact.weak = word
        return True

    def take_length(self, number):
        self.fact.length = int(number)
        return int(number) <= 1000000

    def take_names(self, words):
        if self.fact.length is None or -(-self.fact.length // self.piece) != len(words.split()):
            return False
        self.fact.names = tuple(words.split())
        return True

    def take_nots(self, words):
        self.fact.nots = set(words.split())
        return words.split() == sorted(self.fact.nots)

    def take_bytes(self, start, values, *_):
        start, values = int(start), [int(word) for word in values.split()]
        stop = start + len(values)
        length = 1000000 if self.fact.length is None else self.fact.length
        if stop > length or max(values) > 255 or any(position >= start - 1 for position in self.fact.told):
            return False
        self.fact.told.update({position: {byte} for position, byte in enumerate(values, start)})
        return True


class Reading(unittest.TestCase):

    def check(self, text):
        """Read a text, and look at what is told of it; tell whether it is taken."""
        bad = Judge().first_bad(text)
        if bad is None:
            keeper = read_keeper(text)
            self.assertEqual(show_keeper(keeper), text)
            self.assertEqual([keeper.now, keeper.open_asks], [int(re.search("now (.*)", text)[1]), tuple(
                int(number) for number in re.findall("^ask ([0-9]+)", text, re.M))])
            return True
        with self.assertRaises(BadText) as context:
            read_keeper(text)
        self.assertEqual(context.exception.line, bad, text)
        return False


class Texts(Reading):

    def drawn(self, seed):
        """Return a text with something of everything."""
        draw = random.Random(seed)
        log = Drawn(self, seed, 5).run()
        for copy, _ in log.copies[:2]:
            spans = draw.choice((None, Spans(), Spans((0, 4)), Spans((1, 3), (7, 1000000))))
            log.keeper.ask(copy, spans, only=draw.choice((None, "m1")))
        for group in log.keeper.groups():
            if draw.random() < 0.5:
                for number in group:
                    if not log.facts[number].nots:
                        log.keeper.ended(number)
                log.keeper.fold(group[0])
        return log.keeper, show_keeper(log.keeper)

    def changes(self, text, draw):
        """Return texts with something otherwise."""
        lines = text.split("\n")
        found = [text[:draw.randrange(len(text))], "\n".join(lines[:draw.randrange(len(lines))]), text + "\n", "\n" + text]
        for at, line in enumerate(lines):
            words = line.split(" ")
            k = draw.randrange(len(words))
            others = [[], [line, line], [""], [line, ""], [line + " "], [" " + line], [line.replace(" ", "  ", 1)],
                      [line + " 0"], [line + " a"], [line.replace(" ", "\t", 1)], [line.upper()], [line[:-1]], [line + "\r"],
                      [draw.choice(lines)], [line, draw.choice(lines)], [" ".join(words[:-1])]]
            for word in self.other_words(words[k], draw):
                others.append([" ".join(words[:k] + [word] + words[k + 1:])])
            others += [[draw.choice(("mark m0", "weak w0", "length 2", "names", "names p1", "not m0", "bytes 1 1", "at x 1 1",
                                     "bytes 0 0 1", "answer 0 open", "answer 59 ended", "ask 58 x 1 - all", "copy x -")),
                        line]]
            found += ["\n".join(lines[:at] + other + lines[at + 1:]) for other in others]
        index = draw.randrange(len(lines) - 1)
        found.append("\n".join(lines[:index] + [lines[index + 1], lines[index]] + lines[index + 2:]))
        return found

    def other_words(self, word, draw):
        if word.isdigit():
            number = int(word)
            return [str(number + 1), str(max(0, number - 1)), "0" + word, "-1", "", "+" + word, word + ".0", "1" * 10, "1" * 11,
                    "9" * 10, str(draw.randrange(8)), "\u0663", "1" * 5000, word + "_0", "-"]
        if ".." in word:
            return [word + ",", "," + word, word.replace("..", "."), word.replace("..", "..."), word + ",0..1", "0..0",
                    "0" + word, "0..1000001", "0..2,2..3", "0..2,3..3", "3..4,0..1", "all", "-", "0..2,1..5", "..", "0..", "..4",
                    "999999..1000000"]
        return ["", "-", "open", "ended", "changed", "x", "y", "m1", "toolongwd", "M1", "0", word + word, "all", word + "0"]

    def test_drawn_texts(self):
        counts = {True: 0, False: 0}
        for seed in range(40):
            keeper, text = self.drawn(seed)
            draw = random.Random(seed)
            with self.subTest(seed=seed):
                self.assertTrue(self.check(text))
                self.assertEqual(read_keeper(text), keeper)
                for other in self.changes(text, draw):
                    counts[self.check(other)] += 1
        self.assertGreater(counts[True], 500)
        self.assertGreater(counts[False], 8000)

    def test_a_keeper_that_was_read_goes_on_alike(self):
        for seed in range(40):
            drawn = Drawn(self, seed, 5)
            for _ in range(20):
                drawn.step()
            log = drawn.log
            again = read_keeper(show_keeper(log.keeper))
            log.keeper = again
            for _ in range(15):
                drawn.step()
            other = Drawn(self, seed, 5)
            for _ in range(35):
                other.step()
            self.assertEqual(again, other.log.keeper)
            self.assertEqual(again.groups(), other.log.keeper.groups())

    def test_any_value(self):
        for value in [value for value in any_values() + strange_but() if not isinstance(value, str)]:
            with self.assertRaises(BadText) as context:
                read_keeper(value)
            self.assertEqual((context.exception.line, type(context.exception.line)), (0, int))
        for value in [value for value in any_values() + strange_but() if isinstance(value, str)]:
            self.assertFalse(self.check(value))


class Lines(Reading):
    """Single lines, and the lines that are missing or too many."""

    FIRST = "piece 4\ncopy x -\ncopy y x\nnow 9\nnext 4"
    ANSWER = FIRST + "\nanswer 0 open\nat x 2 1"

    def bad(self, text, line):
        with self.assertRaises(BadText) as context:
            read_keeper(text)
        self.assertEqual(context.exception.line, line)
        self.assertFalse(self.check(text))

    def good(self, text):
        self.assertEqual(show_keeper(read_keeper(text)), text)
        self.assertTrue(self.check(text))

    def test_missing_lines(self):
        lines = (self.ANSWER + "\nmark m1").split("\n")
        for many in range(len(lines) + 1):
            text = "\n".join(lines[:many])
            if many in (5, 7, 8):
                self.good(text)
            else:
                self.bad(text, max(many, 1) if many else 0)
        self.bad("", 0)
        self.bad("\n", 0)
        self.bad(self.FIRST + "\n", 5)
        self.bad(self.FIRST + "\nanswer 0 changed\nat x 2 1", 7)
        self.bad(self.FIRST + "\nanswer 0 changed\nat x 2 1\nanswer 1 open\nat x 2 1", 7)
        self.bad(self.FIRST + "\nanswer 0 changed\nat x 2 1\nmark m1", 7)
        self.bad(self.FIRST + "\nanswer 0 changed\nat x 2 1\nnot m1\nbytes 0 1", 8)
        self.bad(self.FIRST + "\nanswer 0 open\nmark m1", 6)
        self.good(self.FIRST + "\nanswer 0 changed\nat x 2 1\nat y 2 1\nnot m1 m2")

    def test_bounds(self):
        first, ask = self.FIRST, self.FIRST + "\nask "
        at = first + "\nanswer 0 open\nat "
        told = self.ANSWER + "\n"
        for good, bad, line in (
                (first.replace("piece 4", "piece 1"), first.replace("piece 4", "piece 0"), 0),
                (first.replace("piece 4", "piece 64"), first.replace("piece 4", "piece 65"), 0),
                (first.replace("now 9", "now 0"), first.replace("now 9", "now 00"), 3),
                (first.replace("now 9", "now 9999999999"), first.replace("now 9", "now 10000000000"), 3),
                (first.replace("next 4", "next 9999999999"), first.replace("next 4", "next 10000000000"), 4),
                (first.replace("next 4", "next 0"), first.replace("next 4", "next -0"), 4),
                (ask + "3 x 1 - all", ask + "4 x 1 - all", 5), (ask + "0 x 9 - all", ask + "0 x 10 - all", 5),
                (ask + "0 x 1 - -", ask + "0 x 0 - all", 5), (ask + "0 y 1 abcdefgh -", ask + "0 y 1 abcdefghi -", 5),
                (ask + "0 x 1 - 0..1000000", ask + "0 x 1 - 0..1000001", 5),
                (ask + "0 x 1 - 999999..1000000", ask + "0 x 1 - 1000000..1000000", 5),
                (ask + "0 x 1 - 0..1,2..3", ask + "0 x 1 - 0..1,1..3", 5),
                (ask + "0 x 1 - all\nask 1 x 1 - all", ask + "1 x 1 - all\nask 0 x 1 - all", 6),
                (ask + "1 x 1 - all\nanswer 0 open\nat x 1 1", ask + "1 x 1 - all\nanswer 1 open\nat x 1 1", 6),
                (ask + "0 x 1 - all\nask 1 x 1 - all", ask + "0 x 1 - all\nask 0 x 1 - all", 6),
                (at + "x 1 1", at + "x 0 1", 6), (at + "x 9 1", at + "x 10 1", 6), (at + "x 1 2", at + "x 1 0", 6),
                (at + "x 1 1000000000", at + "x 1 1000000001", 6), (at + "y 1 1", at + "z 1 1", 6),
                (at + "x 1 1\nat y 1 1", at + "y 1 1\nat x 1 1", 7), (at + "x 1 1", at + "x 1 1\nat x 2 2", 7),
                (told + "length 0\nnames", told + "length 0\nnames p", 8),
                (told + "length 5\nnames p q", told + "length 5\nnames p", 8),
                (told + "length 4\nnames p", told + "names p", 7),
                (told + "length 1000000", told + "length 1000001", 7), (told + "length 0", told + "length 00", 7),
                (told + "mark m1\nnot m2", told + "mark m1\nnot m1", 8), (told + "not a b", told + "not b a", 7),
                (told + "not a b", told + "not A b", 7), (told + "not a b", told + "not a bB", 7),
                (told + "not a", told + "not a a", 7), (told + "not a", told + "not", 7),
                (told + "bytes 0 0 255", told + "bytes 0 0 256", 7), (told + "bytes 0 1", told + "bytes 0", 7),
                (told + "bytes 999999 1", told + "bytes 999999 1 1", 7), (told + "bytes 999999 1", told + "bytes 1000000 1", 7),
                (told + "length 3\nbytes 1 1 1", told + "length 3\nbytes 1 1 1 1", 8),
                (told + "bytes 0 1\nbytes 2 1", told + "bytes 0 1\nbytes 1 1", 8),
                (told + "bytes 2 1\nbytes 4 1", told + "bytes 2 1\nbytes 0 1", 8),
                (told + "bytes 2 1 1\nbytes 9 1", told + "bytes 2 1 1\nbytes 3 1", 8)):
            self.good(good)
            self.bad(bad, line)

    def test_copies(self):
        def text(*copies):
            return "\n".join(["piece 4"] + [f"copy {copy}" for copy in copies] + ["now 0", "next 0"])

        self.good(text("a f", "b f", "c f", "d f", "e f", "f -"))
        self.bad(text("a f", "b f", "c f", "d f", "e f", "f -", "g -"), 7)
        self.bad(text(), 1)
        for copies, line in ((("x x",), 2), (("x y",), 2), (("x y", "y x"), 3), (("x -", "y z"), 3), (("x -", "x -"), 2),
                             (("y -", "x -"), 2), (("X -",), 1), (("x1 -",), 1), (("x",), 1), (("x - -",), 1),
                             (("abcdefghi -",), 1), (("x abcdefghi",), 1), (("x None",), 1)):
            self.bad(text(*copies), line)
        # What is followed is looked at on the line now, and not before.
        self.bad("piece 4\ncopy x y", 2)
        self.bad("piece 4\ncopy x y\nnow 0", 2)
        self.bad("piece 4\ncopy x y\ncopy z", 2)

    def test_the_line_with_which_there_is_no_world(self):
        first = self.ANSWER.replace("next 4", "next 9") + "\nmark m1\nlength 5\nnames p q\nbytes 0 1 2"
        # 0 and 2 are of m1, so is what is between them; the lines of each answer are looked at one by one.
        other = "\nanswer 1 open\nat x 4 3"
        last = "\nanswer 2 open\nat x 6 5\nmark m1"
        self.good(first + other + last)
        self.bad(first + other + "\nmark m2" + last, 16)
        self.bad(first + other + "\nmark m2\nlength 5" + last, 17)
        self.bad(first + other + "\nlength 4" + last, 16)
        self.bad(first + other + "\nbytes 0 1\nbytes 4 1" + last + "\nlength 4", 18)
        self.bad(first + other + last + "\nlength 5\nnames p r", 17)
        self.bad(first + other + last + "\nnot m1", 16)
        self.bad(first + other + last + "\nbytes 1 9", 16)
        self.bad(first + last + "\nanswer 3 open\nat x 5 4\nmark m2", 16)
        self.bad(first + "\nmark m2" + last, 11)
        # Only the second sighting of an answer ties two others.
        two = self.FIRST + "\nanswer 0 open\nat y 2 5\nmark m1\nanswer 1 open\nat y 9 8\nmark m2\nanswer 2 open\nat x 9 9"
        self.good(two + "\nat y 6 1\nlength 4")
        self.bad(two + "\nat y 5 1\nlength 4", 13)
        # The last lines are bad as well, but further down.
        self.bad(first + other + "\nmark m2" + last + "\nno form\n", 16)
        self.bad(first + other + "\nno form\nmark m2" + last, 13)

    def test_blanks(self):
        good = self.ANSWER + "\nmark m1"
        self.good(good)
        for line in range(8):
            lines = good.split("\n")
            for changed in (lines[line] + " ", " " + lines[line], lines[line].replace(" ", "  ", 1),
                            lines[line].replace(" ", ""), lines[line] + "\t"):
                self.bad("\n".join(lines[:line] + [changed] + lines[line + 1:]), line)
        self.bad(good + "\n", 8)
        self.bad(good + "\n\n", 8)
        self.bad("\n" + good, 0)

    def test_a_very_long_text(self):
        self.bad("piece " + "1" * 100000, 0)
        self.bad(self.FIRST + "\nask " + "9" * 100000 + " x 1 - all", 5)
        values = [at % 256 for at in range(1000000)]
        text = self.ANSWER + "\nbytes 0 " + " ".join(map(str, values))
        keeper = read_keeper(text)
        self.assertEqual([keeper.known(0).pairs, keeper.byte(0, 999999)], [((0, 1000000),), values[-1]])
        with self.assertRaises(BadText) as context:
            read_keeper(text + " 1")
        self.assertEqual(context.exception.line, 7)


class Equality(unittest.TestCase):

    def test_equal_if_their_texts_are(self):
        one, other = Keeper(XYZ), Keeper(tuple(XYZ))
        self.assertTrue(one == other)
        self.assertFalse(one != other)
        for deed in (lambda keeper: keeper.wait(1), lambda keeper: keeper.ask("x"), lambda keeper: keeper.head(0),
                     lambda keeper: keeper.part(0, 0, (1,)), lambda keeper: keeper.part(0, 1, (2,)),
                     lambda keeper: keeper.ended(0), lambda keeper: keeper.let_go(0, Spans((0, 1)))):
            deed(one)
            self.assertFalse(one == other)
            deed(other)
            self.assertTrue(one == other)
        self.assertFalse(Keeper(XYZ, piece=3) == Keeper(XYZ, piece=4))
        self.assertFalse(Keeper(XYZ[:1]) == Keeper(XYZ[:2]))

    def test_orders_and_trials_are_not_shown(self):
        one, other = Keeper(XYZ), Keeper(XYZ)
        order = one.order("x", Spans())
        with one.trial():
            self.assertEqual(one, other)
        self.assertEqual([one == other, order.close(), one == other], [True, None, True])

    def test_nothing_else(self):
        keeper = Keeper(XYZ)
        for value in any_values() + strange_but() + [show_keeper(keeper), keeper.copies, Spans()]:
            self.assertFalse(keeper == value)
            self.assertFalse(value == keeper)
            self.assertTrue(keeper != value)


if __name__ == "__main__":
    unittest.main()
