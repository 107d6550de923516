"""Point 11: groups, what is known of an edition, why, and what is let go."""

import random
import types
import unittest

from oneedition.errors import BadSpans, Contradiction, NoAnswer
from oneedition.evidence import shows_ground
from oneedition.keeper import Keeper
from oneedition.spans import Spans
from tests.helper import COPIES, Drawn, Known, Log, any_values, check_refused, strange_but

XYZ = (("x", None), ("y", "x"), ("z", None))


class Drawings(unittest.TestCase):

    def check(self, log):
        keeper, known = log.keeper, Known(log)
        for number in log.facts:
            table = known.bytes(number)
            length = known.values(number, "length")
            self.assertEqual(keeper.length(number), length)
            self.assertEqual([keeper.byte(number, position) for position in range(8)],
                             [table.get(position) for position in range(8)])
            self.assertEqual(keeper.known(number), Spans(*[(position, position + 1) for position in table]))
            self.assertIs(keeper.is_whole(number), length is not None and sorted(table) == list(range(length)))
            told = list(keeper.stretches(number))
            self.assertEqual([(start, start + len(values)) for start, values in told], list(keeper.known(number).pairs))
            self.assertEqual({start + at: byte for start, values in told for at, byte in enumerate(values)}, table)
            for position in range(6):
                self.check_ground(log, known, number, position)

    def check_ground(self, log, known, number, position):
        good = known.grounds(number, position)
        ground = log.keeper.ground(number, position)
        self.assertEqual(ground is None, not good)
        if ground is not None:
            self.assertIn(ground, good)
        for a in log.facts:
            self.assertIs(shows_ground(log.keeper, number, position, (a,)), (a,) in good)
            for b in log.facts:
                self.assertFalse(shows_ground(log.keeper, number, position, (a, b)))
                for c in log.facts:
                    self.assertIs(shows_ground(log.keeper, number, position, (a, b, c)), (a, b, c) in good)

    def test_drawn_histories(self):
        by_names = 0
        for seed in range(300):
            with self.subTest(seed=seed):
                kinds = "bytes lengths names promises marks changed drops".split()
                log = Drawn(self, seed, 4, kinds if seed % 2 else kinds[:4], kinds[:3]).run()
                self.check(log)
                known = Known(log)
                by_names += sum(not known.tellers(number, position) for number in log.facts
                                for position in known.bytes(number))
        self.assertGreater(by_names, 50)

    def test_differ_stands_behind_compared(self):
        """Two editions without a tie are the same in some world just if their contents do not differ."""
        found = set()
        for seed in range(300):
            log = Drawn(self, seed, 3, "bytes lengths names drops".split()).run()
            known = Known(log)
            for a in log.facts:
                for b in log.facts:
                    words = log.keeper.compared(a, b)
                    if "older" in words and "newer" in words and len(log.facts) == 2:
                        self.assertIs("same" in words, not known.differ(a, b))
                        found.add("same" in words)
        self.assertEqual(found, {True, False})


class Groups(unittest.TestCase):

    def test_none_and_several(self):
        keeper = Keeper(XYZ)
        self.assertEqual(keeper.groups(), ())
        for mark in ("m1", "m2", "m1", None):
            keeper.head(keeper.ask("z"), mark=mark if mark != "m2" else None)
        self.assertEqual(keeper.groups(), ((0, 1, 2), (3,)))

    def test_groups_do_not_hang_on_contents(self):
        keeper = Keeper(XYZ)
        for copy in "xz":
            keeper.head(keeper.ask(copy), length=1)
            keeper.part(keeper.answers[-1], 0, (1,))
        self.assertEqual(keeper.groups(), ((0,), (1,)))


class Contents(unittest.TestCase):

    def test_a_length_of_zero(self):
        keeper = Keeper(XYZ)
        keeper.head(keeper.ask("x"), length=0)
        keeper.head(keeper.ask("z"))
        told = [(keeper.length(a), keeper.known(a).pairs, keeper.is_whole(a), list(keeper.stretches(a))) for a in (0, 1)]
        self.assertEqual(told, [(0, (), True, []), (None, (), False, [])])
        check_refused(self, keeper, Contradiction, (0,), lambda: keeper.part(0, 0, (1,)))

    def test_whole(self):
        keeper = Keeper(XYZ)
        keeper.head(keeper.ask("x"), mark="m1")
        keeper.part(0, 0, (1, 2))
        self.assertFalse(keeper.is_whole(0))
        keeper.head(keeper.ask("z"), mark="m1", length=3)
        self.assertEqual([keeper.is_whole(0), keeper.length(0)], [False, 3])
        keeper.part(1, 2, (3,))
        self.assertEqual([keeper.is_whole(0), keeper.is_whole(1)], [True, True])
        self.assertEqual(list(keeper.stretches(1)), [(0, (1, 2, 3))])

    def test_the_same_name_at_another_piece_tells_nothing(self):
        keeper = Keeper(XYZ, piece=2)
        keeper.head(keeper.ask("x"), mark="m1", length=4, names=("p", "q"))
        keeper.part(0, 0, (1, 2, 3, 4))
        keeper.head(keeper.ask("z"), mark="m2", length=6, names=("q", "p", "p"))
        self.assertEqual(keeper.known(1).pairs, ())
        keeper.head(keeper.ask("z"), mark="m3", length=6, names=("r", "q", "p"))
        self.assertEqual(keeper.known(2).pairs, ((2, 4),))

    def test_the_last_piece_is_shorter(self):
        keeper = Keeper(XYZ, piece=4)
        for mark in ("m1", "m2"):
            keeper.head(keeper.ask("x"), mark=mark, length=6, names=(mark, "q"))
        keeper.part(0, 3, (3, 4, 5))
        self.assertEqual([keeper.known(1).pairs, keeper.ground(1, 4), keeper.ground(1, 3)], [((4, 6),), (1, 0, 0), None])

    def test_stretches_is_a_generator(self):
        keeper = Keeper(XYZ)
        keeper.head(keeper.ask("x"))
        self.assertIsInstance(keeper.stretches(0), types.GeneratorType)
        keeper.part(0, 5, (1,))
        keeper.part(0, 2, (8, 9))
        self.assertEqual(list(keeper.stretches(0)), [(2, (8, 9)), (5, (1,))])

    def test_any_position(self):
        keeper = Keeper(XYZ)
        keeper.head(keeper.ask("x"))
        keeper.part(0, 0, (7, 8))
        keeper.part(0, 999999, (9,))
        for position in any_values() + strange_but():
            known = {0: 7, 1: 8, 999999: 9}.get(position) if type(position) is int else None
            self.assertEqual(keeper.byte(0, position), known)
            self.assertEqual(keeper.ground(0, position), None if known is None else (0,))
            self.assertIs(shows_ground(keeper, 0, position, (0,)), known is not None)

    def test_any_ground(self):
        keeper = Keeper(XYZ)
        keeper.head(keeper.ask("x"), length=2, names=("p",))
        keeper.head(keeper.ask("x"), length=2, names=("p",))
        keeper.part(1, 0, (7, 8))
        good = [(0, 1, 1)]
        self.assertEqual(keeper.ground(0, 0), (0, 1, 1))
        for value in any_values() + strange_but() + good + [(1,), (0,), (1, 1, 1), (0, True, 1), (0, 1, True),
                                                            [0, 1, 1], (0, 1, 2), (0, 1), (0, 1, 1, 1), ((0, 1, 1),)]:
            self.assertIs(shows_ground(keeper, 0, 0, value), value in good and type(value) is tuple
                          and not any(part is True for part in value), value)
        for value in ((1,), (1, 1, 1)):
            self.assertTrue(shows_ground(keeper, 1, 0, value))

    def test_no_answer(self):
        keeper = Keeper(XYZ)
        keeper.ask("x")
        keeper.head(keeper.ask("x"))
        deeds = [keeper.length, keeper.known, keeper.is_whole, keeper.sightings, keeper.fold,
                 lambda a: list(keeper.stretches(a)), lambda a: keeper.byte(a, "no"), lambda a: keeper.ground(a, "no"),
                 lambda a: keeper.let_go(a, "no")]
        for value in strange_but(1) + [0, 2]:
            for deed in deeds:
                check_refused(self, keeper, NoAnswer, value, lambda: deed(value))


class LettingGo(unittest.TestCase):

    def test_bad_spans(self):
        keeper = Keeper(XYZ)
        keeper.head(keeper.ask("x"))
        for value in any_values() + strange_but() + [((0, 4),)]:
            check_refused(self, keeper, BadSpans, value, lambda: keeper.let_go(0, value))

    def test_bytes_that_others_told_stay(self):
        keeper = Keeper(XYZ)
        for at in range(2):
            keeper.head(keeper.ask("x"), mark="m1", weak="w1", length=4, names=("p",))
            keeper.part(at, at, (1, 2, 3) if at == 0 else (2, 3, 4))
        self.assertEqual(list(keeper.stretches(0)), [(0, (1, 2, 3, 4))])
        keeper.let_go(0, Spans((0, 2), (50, 60)))
        self.assertEqual([list(keeper.stretches(0)), keeper.ground(0, 1)], [[(1, (2, 3, 4))], (1,)])
        keeper.let_go(1, Spans((0, 1000000)))
        self.assertEqual([list(keeper.stretches(0)), keeper.ground(0, 2)], [[(2, (3,))], (0,)])
        self.assertEqual([keeper.length(0), keeper.compared(0, 1)], [4, ("same",)])
        keeper.part(0, 0, (1,))
        self.assertEqual(keeper.known(1).pairs, ((0, 1), (2, 3)))

    def test_what_would_have_been_a_contradiction(self):
        keeper = Keeper(XYZ)
        keeper.head(keeper.ask("x"), mark="m1")
        keeper.part(0, 0, (1, 2))
        keeper.ended(0)
        keeper.head(keeper.ask("z"), mark="m1")
        check_refused(self, keeper, Contradiction, (0, 1), lambda: keeper.part(1, 0, (9,)))
        keeper.let_go(0, Spans((0, 1)))
        keeper.part(1, 0, (9,))
        self.assertEqual(list(keeper.stretches(0)), [(0, (9, 2))])

    def test_positions_that_it_did_not_tell_change_nothing(self):
        log = Log(COPIES[0])
        log.head(self, log.ask("x"))
        log.part(self, 0, 3, (1, 2))
        for spans in (Spans(), Spans((0, 3)), Spans((5, 1000000))):
            self.assertIsNone(log.keeper.let_go(0, spans))
            self.assertEqual(list(log.keeper.stretches(0)), [(3, (1, 2))])

    def test_many_gaps(self):
        draw = random.Random(1)
        keeper = Keeper(XYZ)
        keeper.head(keeper.ask("x"))
        keeper.part(0, 0, tuple(range(200)))
        kept = set(range(200))
        for _ in range(30):
            start = draw.randrange(200)
            spans = Spans((start, start + draw.randint(1, 5)))
            keeper.let_go(0, spans)
            kept = {position for position in kept if position not in spans}
        self.assertEqual({position: keeper.byte(0, position) for position in kept}, {at: at for at in kept})
        self.assertEqual(len(keeper.known(0)), len(kept))


if __name__ == "__main__":
    unittest.main()
