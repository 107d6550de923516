"""Points 5, 6 and 9: keepers, asks, heads, parts, ends, contradictions; and the interface."""

import inspect
import unittest

from oneedition import evidence, keeper as module, texts
from oneedition.errors import (BadBytes, BadCopies, BadCount, BadLength, BadNames, BadPiece, BadSpans, BadStart, BadTime,
                               BadWord, Contradiction, Ended, KeeperError, NoAsk, NoCopy, NoHead, NoMark)
from oneedition.keeper import Keeper
from oneedition.spans import Spans
from tests.helper import HUGE, any_values, check_refused, nested, shown, strange_but

XYZ = (("x", None), ("y", "x"), ("z", None))

SIGNATURES = {
    "wait": "many", "ask": "copy spans=None *only=None",
    "head": "number *mark=None *weak=None *length=None *until=None *names=None",
    "changed": "number", "lost": "number", "part": "number start values", "ended": "number",
    "compared": "a b", "alike": "a b", "reason": "a b word", "world": "a b word",
    "groups": "", "length": "a", "known": "a", "byte": "a position", "is_whole": "a", "stretches": "a",
    "ground": "a position", "let_go": "number spans", "fold": "a", "sightings": "a",
    "may_have": "copy a", "has": "copy a", "possible": "copy",
    "order": "copy spans", "ordered": "copy spans deed", "trial": "", "tried": "deed",
}


def signature(function):
    """Return the parameters of a function as one string; those by name alone have a star."""
    found = []
    for parameter in inspect.signature(function).parameters.values():
        star = "*" if parameter.kind is parameter.KEYWORD_ONLY else ""
        default = "" if parameter.default is parameter.empty else f"={parameter.default!r}"
        found.append(star + parameter.name + default)
    return " ".join(found)


class Interface(unittest.TestCase):

    def test_methods_of_the_keeper(self):
        self.assertEqual(Keeper.__module__, "oneedition.keeper")
        self.assertIs(module.Keeper, Keeper)
        self.assertEqual(signature(Keeper), "copies *piece=4")
        for word, wanted in SIGNATURES.items():
            self.assertEqual(signature(vars(Keeper)[word]), ("self " + wanted).strip(), word)
        self.assertIn("__eq__", vars(Keeper))

    def test_functions(self):
        for function, wanted in ((evidence.shows_reason, "keeper a b word value"),
                                 (evidence.shows_world, "keeper a b word value"),
                                 (evidence.shows_ground, "keeper a position value"),
                                 (texts.show_keeper, "keeper"), (texts.read_keeper, "text")):
            self.assertEqual(signature(function), wanted)
        for function in (evidence.shows_reason, evidence.shows_world, evidence.shows_ground):
            self.assertEqual(function.__module__, "oneedition.evidence")
        for function in (texts.show_keeper, texts.read_keeper):
            self.assertEqual(function.__module__, "oneedition.texts")

    def test_attributes(self):
        keeper = Keeper(XYZ, piece=7)
        self.assertIs(keeper.copies, XYZ)
        self.assertEqual([vars(keeper)[word] for word in ("piece", "now", "open_asks", "answers")], [7, 0, (), ()])

    def test_methods_of_orders_streams_and_trials(self):
        keeper = Keeper(XYZ)
        order = keeper.order("x", Spans((0, 1)))
        for word in ("close", "had", "offers", "take", "asking", "stream", "__enter__", "__exit__"):
            self.assertIn(word, vars(type(order)))
        self.assertEqual((order.source, order.spans, order.begun), ("x", Spans((0, 1)), 0))
        for word in ("more", "taken", "is_done"):
            self.assertIn(word, vars(type(order.stream())))
        for word in ("keep", "__enter__", "__exit__"):
            self.assertIn(word, vars(type(keeper.trial())))

    def test_arguments_by_name(self):
        keeper = Keeper(copies=XYZ, piece=2)
        number = keeper.ask(copy="x", spans=Spans((0, 2)), only="m1")
        keeper.head(number=number, mark="m1", weak="w", length=3, until=9, names=("p", "q"))
        keeper.part(number=0, start=0, values=(1, 2, 3))
        keeper.wait(many=1)
        keeper.changed(number=keeper.ask(copy="y", only="m2"))
        keeper.lost(number=keeper.ask(copy="z"))
        keeper.ended(number=0)
        told = [keeper.compared(a=0, b=1), keeper.alike(a=0, b=1), keeper.reason(a=0, b=1, word="same"),
                keeper.length(a=0), keeper.known(a=0).pairs, keeper.byte(a=0, position=1), keeper.is_whole(a=0),
                list(keeper.stretches(a=0)), keeper.ground(a=0, position=1), keeper.sightings(a=0),
                keeper.may_have(copy="x", a=0), keeper.has(copy="x", a=0), keeper.possible(copy="x"),
                keeper.ordered(copy="x", spans=Spans(), deed=lambda order: order.source),
                keeper.tried(deed=lambda trial: keeper.now), keeper.fold(a=0)]
        self.assertEqual(told, [("same", "newer"), (False, True), None, 3, ((0, 3),), 2, True, [(0, (1, 2, 3))], (0,),
                                (("x", 2, 9),), True, True, (0, 1), "x", 9, 0])
        keeper.let_go(number=0, spans=Spans((0, 1)))
        world = keeper.world(a=0, b=1, word="same")
        self.assertTrue(evidence.shows_world(keeper=keeper, a=0, b=1, word="same", value=world))
        self.assertFalse(evidence.shows_reason(keeper=keeper, a=0, b=1, word="same", value=()))
        self.assertTrue(evidence.shows_ground(keeper=keeper, a=0, position=1, value=(0,)))
        text = texts.show_keeper(keeper=keeper)
        self.assertEqual(texts.read_keeper(text=text), keeper)


class Making(unittest.TestCase):

    def check(self, error_class, value, *given, **more):
        with self.assertRaises(KeeperError) as context:
            Keeper(*given, **more)
        self.assertIs(type(context.exception), error_class)
        self.assertEqual(context.exception.value, value)
        self.assertIs(type(context.exception.value), type(value))

    def test_good_copies(self):
        six = tuple((letter, None if letter == "f" else chr(ord(letter) + 1)) for letter in "abcdef")
        for copies in (XYZ, six, (("a", None),), (("abcdefgh", None),), (("a", "z"), ("b", "z"), ("z", None)),
                       (("a", None), ("aa", "a"), ("ab", "aa"))):
            self.assertIs(Keeper(copies).copies, copies)

    def test_bad_copies(self):
        seven = tuple((letter, None) for letter in "abcdefg")
        wrong = [seven, (), (("x", None), ("x", None)), (("y", None), ("x", None)), (("x", "x"),), (("x", "y"),),
                 (("x", "y"), ("y", "x")), (("x", "y"), ("y", "z"), ("z", "y")), (("x", ""),), (("", None),),
                 (("X", None),), (("x1", None),), (("abcdefghi", None),), (("x y", None),), (("\xe4", None),),
                 (("x",),), (("x", None, None),), (["x", None],), [("x", None)], (("x", True),), (("x", False),),
                 ((None, None),), (("x", ["x"]),), ((["x"], None),), (("x", None), None), (("x", None), "y"),
                 ("xy",), "xy", {"x": None}, (("x", None), ("y", "x"), ("z", "w")), (("x", nested(19)),),
                 (("x", 0),), ((0, None),), (HUGE,), (("-", None),)]
        for copies in wrong + any_values():
            self.check(BadCopies, copies, copies)
            self.check(BadCopies, copies, copies, piece=0)
            self.check(BadCopies, copies, copies=copies)

    def test_piece(self):
        for piece in (1, 2, 63, 64):
            self.assertEqual(Keeper(XYZ, piece=piece).piece, piece)
        for piece in [0, 65, -1, "4", (4,), [4], True, False, None, HUGE, -HUGE] + any_values():
            if type(piece) is int and 1 <= piece <= 64:
                continue
            self.check(BadPiece, piece, XYZ, piece=piece)

    def test_at_first(self):
        keeper = Keeper(XYZ)
        self.assertEqual(keeper.piece, 4)
        self.assertEqual([keeper.now, keeper.open_asks, keeper.answers, keeper.groups()], [0, (), (), ()])


class Times(unittest.TestCase):

    def test_events_take_one_and_waiting_takes_many(self):
        keeper = Keeper(XYZ)
        times = []
        for deed in (lambda: keeper.ask("x"), lambda: keeper.head(0), lambda: keeper.part(0, 0, (1,)),
                     lambda: keeper.ended(0), lambda: keeper.ask("x", only="m1"), lambda: keeper.changed(1),
                     lambda: keeper.ask("x"), lambda: keeper.lost(2), lambda: keeper.wait(5), lambda: keeper.wait(1000),
                     lambda: keeper.wait(1), lambda: keeper.order("x", Spans()), lambda: keeper.fold(0),
                     lambda: keeper.let_go(0, Spans((0, 1))), lambda: keeper.tried(lambda trial: keeper.ask("x"))):
            deed()
            times.append(keeper.now)
        self.assertEqual(times, [1, 2, 3, 4, 5, 6, 7, 8, 13, 1013, 1014, 1014, 1014, 1014, 1014])

    def test_wrong_counts(self):
        keeper = Keeper(XYZ)
        for many in [0, 1001, -1] + any_values():
            if type(many) is int and 1 <= many <= 1000:
                continue
            check_refused(self, keeper, BadCount, many, lambda: keeper.wait(many))

    def test_results_are_none(self):
        keeper = Keeper(XYZ)
        keeper.ask("x", only="m1")
        keeper.ask("x", only="m1")
        keeper.ask("x")
        told = [keeper.head(0), keeper.part(0, 0, (1,)), keeper.ended(0), keeper.changed(1), keeper.lost(2),
                keeper.wait(1), keeper.let_go(0, Spans())]
        self.assertEqual(told, [None] * 7)


class Asks(unittest.TestCase):

    def test_numbers_and_open_asks(self):
        keeper = Keeper(XYZ)
        self.assertEqual([keeper.ask(copy) for copy in "xyzx"], [0, 1, 2, 3])
        self.assertEqual(keeper.open_asks, (0, 1, 2, 3))
        keeper.head(2)
        keeper.lost(0)
        self.assertEqual((keeper.open_asks, keeper.answers), ((1, 3), (2,)))
        self.assertEqual(keeper.ask("x", None, only=None), 4)
        keeper.head(1)
        keeper.head(4)
        self.assertEqual((keeper.open_asks, keeper.answers), ((3,), (1, 2, 4)))

    def test_the_first_error_that_applies(self):
        keeper = Keeper(XYZ)
        for copy in strange_but("x"):
            check_refused(self, keeper, NoCopy, copy, lambda: keeper.ask(copy, 3, only=3))
        for spans in strange_but(None):
            check_refused(self, keeper, BadSpans, spans, lambda: keeper.ask("x", spans, only=3))
        for only in strange_but(None, "a", "3", "ab", "0"):
            check_refused(self, keeper, BadWord, only, lambda: keeper.ask("x", Spans(), only=only))
        self.assertEqual(keeper.ask("x", Spans(), only="abcdefg8"), 0)

    def test_words(self):
        keeper = Keeper(XYZ)
        for word in ("a", "z", "0", "9", "abcdefgh", "01234567", "a1"):
            keeper.ask("x", only=word)
        for word in ("", "abcdefghi", "A", "a b", "a-b", "_", "\xe9", "\u0663", "a\n", "\uff41"):
            check_refused(self, keeper, BadWord, word, lambda: keeper.ask("x", only=word))

    def test_no_ask(self):
        keeper = Keeper(XYZ)
        for _ in range(4):
            keeper.ask("x", only="m1")
        keeper.head(0)
        keeper.lost(3)
        for number in strange_but(1, 2) + [3, 4]:
            for deed in (lambda: keeper.head(number, mark=3, weak=3), lambda: keeper.changed(number),
                         lambda: keeper.lost(number)):
                check_refused(self, keeper, NoAsk, number, deed)
        keeper.changed(1)
        check_refused(self, keeper, NoAsk, 1, lambda: keeper.changed(1))

    def test_no_mark(self):
        keeper = Keeper(XYZ)
        keeper.ask("x")
        check_refused(self, keeper, NoMark, 0, lambda: keeper.changed(0))
        keeper.head(0)
        check_refused(self, keeper, NoAsk, 0, lambda: keeper.changed(0))

    def test_changed_may_contradict(self):
        keeper = Keeper(XYZ)
        keeper.ask("x", only="m1")
        keeper.head(0, until=9)
        keeper.ask("x", only="m1")
        check_refused(self, keeper, Contradiction, (0, 1), lambda: keeper.changed(1))
        self.assertEqual(keeper.open_asks, (1,))
        keeper.wait(6)
        self.assertEqual(keeper.ask("x", only="m1"), 2)
        keeper.changed(2)
        self.assertEqual(keeper.compared(2, 0), ("newer",))


class Heads(unittest.TestCase):

    def setUp(self):
        self.keeper = Keeper(XYZ, piece=2)
        self.keeper.ask("x")
        self.keeper.ask("x", only="m1")

    def refused(self, error_class, value, number=0, **told):
        check_refused(self, self.keeper, error_class, value, lambda: self.keeper.head(number, **told))

    def test_the_first_error_that_applies(self):
        rest = {"mark": 1, "weak": 2, "length": -1, "until": 0, "names": 3}
        words = ("a", "3", "ab", "0")
        for value in strange_but(None, *words):
            self.refused(BadWord, value, **{**rest, "mark": value})
            self.refused(BadWord, value, **{**rest, "mark": None, "weak": value})
        rest.update(mark=None, weak=None)
        for value in strange_but(None):
            if type(value) is not int or not 0 <= value <= 1000000:
                self.refused(BadLength, value, **{**rest, "length": value})
        for length in (0, 3, None):
            rest.update(length=length)
            for value in strange_but(None):
                if type(value) is not int or not self.keeper.now + 1 <= value <= 1000000000:
                    self.refused(BadTime, value, **{**rest, "until": value})
        rest.update(until=None)
        for length in (None, 0, 3):
            rest.update(length=length)
            for value in strange_but(None, () if length == 0 else ("0", "4") if length == 3 else None):
                self.refused(BadNames, value, **{**rest, "names": value})

    def test_marks_of_an_ask_with_only(self):
        for mark in ("m2", "m", "m11", "1", 1, True, ["m1"], ("m1",), ""):
            self.refused(BadWord, mark, number=1, mark=mark, weak=7)
        self.keeper.head(1)
        self.keeper.ask("x", only="m1")
        self.keeper.head(2, mark="m1")
        self.keeper.head(0, mark="m1")
        self.assertEqual(self.keeper.groups(), ((0, 1, 2),))

    def test_weak_is_no_mark(self):
        self.keeper.head(0, mark="m2", weak="m1")
        self.keeper.head(1, weak="m2")
        self.assertEqual(self.keeper.compared(0, 1), ("older", "newer"))

    def test_lengths(self):
        for length in (-1, 1000001, HUGE, "3", True):
            self.refused(BadLength, length, length=length)
        self.keeper.head(0, length=1000000)
        self.keeper.head(1, length=0)
        self.assertEqual([self.keeper.length(0), self.keeper.length(1)], [1000000, 0])

    def test_times(self):
        self.assertEqual(self.keeper.now, 2)
        for until in (2, 0, -1, 1000000001, HUGE, True, "3"):
            self.refused(BadTime, until, until=until)
        self.keeper.head(0, until=3)
        self.assertEqual(self.keeper.sightings(0), (("x", 3, 3),))
        self.refused(BadTime, 3, number=1, until=3)
        self.keeper.head(1, until=1000000000)
        self.assertEqual(self.keeper.sightings(1), (("x", 4, 1000000000),))

    def test_the_time_that_a_promise_reaches(self):
        self.keeper.head(0, until=6)
        number = self.keeper.ask("x")

        def deed(many):
            if many:
                self.keeper.wait(many)
            self.keeper.head(number)
            return self.keeper.now, self.keeper.compared(number, 0)

        # An answer that came at the last time of the promise is still of this edition.
        told = [self.keeper.tried(lambda trial: deed(many)) for many in range(3)]
        self.assertEqual(told, [(5, ("same",)), (6, ("same",)), (7, ("same", "newer"))])

    def test_names(self):
        for names in ((), ("p",), ("p", "q", "r"), ["p", "q"], "pq", ("p", ""), ("p", "Q"), ("p", None), ("p", 1),
                      (("p",), "q"), ("p", ["q"]), ("p", True), ("p", "toolongwd")):
            self.refused(BadNames, names, length=3, names=names)
            self.refused(BadNames, names, names=names)
        self.refused(BadNames, ("p",), length=0, names=("p",))
        self.refused(BadNames, ("p",), length=4, names=("p",))
        self.keeper.head(0, length=3, names=("p", "q"))
        self.keeper.head(1, length=0, names=())
        self.assertEqual(self.keeper.compared(0, 1), ("older", "newer"))

    def test_many_pieces(self):
        names = tuple(str(at % 10) for at in range(15625))
        keeper = Keeper(XYZ, piece=64)
        keeper.ask("x")
        check_refused(self, keeper, BadNames, names[1:], lambda: keeper.head(0, length=1000000, names=names[1:]))
        keeper.head(0, length=1000000, names=names)
        keeper.part(0, 999999, (5,))
        keeper.ask("z")
        keeper.head(1, length=1000000, names=("x",) + names[1:])
        self.assertEqual([keeper.known(1).pairs, keeper.compared(0, 1)], [((999999, 1000000),), ("older", "newer")])


class Parts(unittest.TestCase):

    def setUp(self):
        self.keeper = Keeper(XYZ)
        for only in (None, None, "m1"):
            self.keeper.ask("x", only=only)
        self.keeper.head(0, length=6)
        self.keeper.changed(2)
        self.keeper.ask("z")
        self.keeper.head(3)
        self.keeper.ended(3)

    def refused(self, error_class, value, *given):
        check_refused(self, self.keeper, error_class, value, lambda: self.keeper.part(*given))

    def test_the_first_error_that_applies(self):
        for number in strange_but(0, 3) + [2, 4]:
            self.refused(NoHead, number, number, -1, ())
            check_refused(self, self.keeper, NoHead, number, lambda: self.keeper.ended(number))
        self.refused(Ended, 3, 3, -1, ())
        check_refused(self, self.keeper, Ended, 3, lambda: self.keeper.ended(3))
        for start in strange_but():
            if type(start) is not int or not 0 <= start <= 999999:
                self.refused(BadStart, start, 0, start, ())
        for values in strange_but((0,), (0, 4), (1, 2), (0, 4, 5)):
            self.refused(BadBytes, values, 0, 0, values)

    def test_bytes(self):
        for values in ((), (256,), (-1,), (0, 256), (1, True), (1, None), (1, "2"), [1], "1", (HUGE,), ((1,),)):
            self.refused(BadBytes, values, 0, 0, values)
        self.refused(BadBytes, (1, 2), 0, 999999, (1, 2))
        self.refused(BadStart, 1000000, 0, 1000000, (1,))
        self.keeper.head(1)
        self.keeper.part(1, 999999, (255,))
        self.keeper.part(1, 0, (0, 255))
        self.assertEqual(self.keeper.known(1).pairs, ((0, 2), (999999, 1000000)))
        whole = tuple(at % 256 for at in range(999998))
        self.keeper.ask("z")
        self.keeper.head(4)
        self.keeper.part(4, 2, whole)
        self.assertEqual(self.keeper.known(4).pairs, ((2, 1000000),))
        self.refused(BadBytes, whole + (1,), 4, 2, whole + (1,))

    def test_overlapping_parts_in_any_sequence(self):
        keeper = self.keeper
        for start, values in ((4, (5, 6)), (0, (1, 2)), (1, (2, 3)), (2, (3, 4, 5)), (0, (1,))):
            keeper.part(0, start, values)
        self.assertEqual(list(keeper.stretches(0)), [(0, (1, 2, 3, 4, 5, 6))])

    def test_contradictions(self):
        keeper = self.keeper
        self.refused(Contradiction, (0,), 0, 6, (1,))
        self.refused(Contradiction, (0,), 0, 4, (1, 2, 3))
        keeper.part(0, 2, (3, 4))
        self.refused(Contradiction, (0,), 0, 3, (5,))
        self.refused(Contradiction, (0,), 0, 0, (1, 2, 3, 5))
        keeper.part(0, 3, (4, 5))

    def test_an_end_takes_time_and_no_part_comes_behind_it(self):
        now = self.keeper.now
        self.keeper.ended(0)
        self.assertEqual(self.keeper.now, now + 1)
        self.refused(Ended, 0, 0, 0, (1,))


class Contradictions(unittest.TestCase):

    def test_which_numbers_are_left(self):
        # 0 would do as well as 1, and 2 as well as 4; the lesser number is left out.
        keeper = Keeper(XYZ)
        for at in range(3):
            keeper.ask("x")
            keeper.head(at, mark="m1" if at < 2 else "m2")
        keeper.ask("y")
        keeper.ask("x")
        keeper.head(4, mark="m2")
        keeper.ask("x")
        check_refused(self, keeper, Contradiction, (1, 4, 5), lambda: keeper.head(5, mark="m1"))
        keeper.head(5)
        self.assertEqual((keeper.open_asks, keeper.compared(4, 5)), ((3,), ("older", "same")))

    def test_open_asks_and_ended_answers(self):
        keeper = Keeper(XYZ)
        keeper.ask("x")
        keeper.head(0, mark="m1", length=3)
        keeper.ended(0)
        keeper.ask("z")
        check_refused(self, keeper, Contradiction, (0, 1), lambda: keeper.head(1, mark="m1", length=4))
        self.assertEqual(keeper.open_asks, (1,))
        keeper.head(1, mark="m1")
        check_refused(self, keeper, Contradiction, (0, 1), lambda: keeper.part(1, 3, (9,)))
        keeper.part(1, 2, (9,))
        self.assertEqual(keeper.byte(0, 2), 9)

    def test_a_meaning_that_was_left_does_not_come_again(self):
        keeper = Keeper(XYZ)
        for at, weak in enumerate(("w1", "w2")):
            keeper.ask("x")
            keeper.head(at, weak=weak)
        keeper.ask("x")
        check_refused(self, keeper, Contradiction, (0, 1, 2), lambda: keeper.head(2, weak="w1"))
        self.assertEqual(shown(keeper)[1:], (5, (2,), (0, 1)))

    def test_names_over_editions(self):
        keeper = Keeper(XYZ, piece=2)
        keeper.ask("x")
        keeper.head(0, mark="m1", length=3, names=("p", "q"))
        keeper.part(0, 0, (1, 2, 3))
        keeper.ask("z")
        # The same name at the last piece, but another length of it.
        check_refused(self, keeper, Contradiction, (0, 1), lambda: keeper.head(1, length=4, names=("r", "q")))
        keeper.head(1, length=5, names=("p", "r", "q"))
        check_refused(self, keeper, Contradiction, (0, 1), lambda: keeper.part(1, 1, (9,)))
        keeper.part(1, 1, (2, 9))
        self.assertEqual(list(keeper.stretches(1)), [(0, (1, 2, 9))])


if __name__ == "__main__":
    unittest.main()
