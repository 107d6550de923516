"""Point 10: evidence, what is taken as such, and its errors."""

import random
import unittest

from oneedition.errors import NoAnswer, NoWord
from oneedition.evidence import shows_ground, shows_reason, shows_world
from oneedition.keeper import Keeper
from tests.helper import COPIES, Drawn, Known, Log, any_values, check_refused, strange_but, variants

WORDS = ("older", "same", "newer")


class Drawings(unittest.TestCase):

    def setUp(self):
        self.formed = {True: 0, False: 0}

    def some(self, draw, values, many):
        return draw.sample(values, min(many, len(values)))

    def check(self, log, draw):
        """Take what is told, and look at what is told with one part otherwise."""
        keeper, known, numbers = log.keeper, Known(log), sorted(log.facts)
        counts = {True: 0, False: 0}
        self.check_candidates(log, known)
        for a in numbers:
            for b in numbers:
                for word in WORDS:
                    reason, world = keeper.reason(a, b, word), keeper.world(a, b, word)
                    self.assertEqual(reason is None, world is not None)
                    self.assertEqual(world is not None, word in keeper.compared(a, b))
                    if reason is not None:
                        self.assertTrue(known.is_reason(a, b, word, reason), (a, b, word, reason))
                        self.assertTrue(shows_reason(keeper, a, b, word, reason))
                        for value in self.some(draw, variants(reason, numbers), 12):
                            took = shows_reason(keeper, a, b, word, value)
                            self.assertIs(took, known.is_reason(a, b, word, value), (a, b, word, value))
                            counts[took] += 1
                        # What is evidence for one question is looked at for another.
                        for other in WORDS:
                            self.assertIs(shows_reason(keeper, b, a, other, reason),
                                          known.is_reason(b, a, other, reason))
                    else:
                        self.assertTrue(known.is_world(a, b, word, world), (a, b, word, world))
                        self.assertTrue(shows_world(keeper, a, b, word, world))
                        self.check_worlds(log, known, draw, (a, b, word), world, counts)
        return counts

    def check_candidates(self, log, known):
        for a in log.facts:
            for b in log.facts:
                for word in WORDS:
                    for value in known.candidates(a, b, word):
                        took = shows_reason(log.keeper, a, b, word, value)
                        self.assertIs(took, known.is_reason(a, b, word, value), (a, b, word, value))
                        self.formed[took] += 1

    def check_worlds(self, log, known, draw, asked, world, counts):
        moved = tuple((number, edition * 7 - 10 ** 30, meaning * 3 - 5) for number, edition, meaning in world)
        self.assertTrue(shows_world(log.keeper, *asked, moved))
        near = [tuple((row[0], row[1] + draw.randint(-1, 1), row[2] + draw.randint(-1, 1)) if draw.random() < 0.4 else row
                      for row in world) for _ in range(6)]
        for value in self.some(draw, variants(world, range(-1, 4)), 10) + near:
            took = shows_world(log.keeper, *asked, value)
            self.assertIs(took, known.is_world(*asked, value), (asked, value))
            counts[took] += 1

    def test_drawn_histories(self):
        counts = {True: 0, False: 0}
        for seed in range(150):
            with self.subTest(seed=seed):
                log = Drawn(self, seed, 6 if seed % 10 == 0 else 4).run()
                for took, many in self.check(log, random.Random(seed)).items():
                    counts[took] += many
        # Some of what is otherwise is evidence still.
        self.assertGreater(counts[True], 500)
        self.assertGreater(counts[False], 5000)
        self.assertGreater(self.formed[True], 300)
        self.assertGreater(self.formed[False], 3000)

    def test_any_value_is_looked_at(self):
        log = Drawn(self, 3, 4).run()
        keeper, known = log.keeper, Known(log)
        for value in any_values() + strange_but() + [("edition", 0, 1, ()), ("meaning", 0, 1, ((), (), (), ())),
                                                     ((0, 1, None),), ((0, 1, ()),), ((1, 0, (0, 1, 2)),)]:
            for a in log.facts:
                for word in WORDS:
                    self.assertIs(shows_reason(keeper, a, 0, word, value), known.is_reason(a, 0, word, value))
                    self.assertIs(shows_world(keeper, a, 0, word, value), known.is_world(a, 0, word, value))


class Made(unittest.TestCase):
    """Evidence of each kind, on histories that need it."""

    def check(self, log, a, b, word, *kinds):
        reason = log.keeper.reason(a, b, word)
        self.assertIsNotNone(reason)
        self.assertTrue(shows_reason(log.keeper, a, b, word, reason))
        self.assertTrue(Known(log).is_reason(a, b, word, reason))
        for kind in kinds:
            self.assertIn(kind, repr(reason))
        return reason

    def log(self, *heads):
        log = Log(COPIES[2], 2)
        for copy, told in heads:
            log.head(self, log.ask(copy), **told)
        return log

    def test_itself(self):
        log = self.log(("x", {}), ("x", {"until": 90}))
        for number in (0, 1):
            for word in ("older", "newer"):
                self.assertEqual(log.keeper.reason(number, number, word), ())
                self.assertIsNone(log.keeper.world(number, number, word))
            self.assertIsNone(log.keeper.reason(number, number, "same"))
            # No step leads from an answer to itself, not even with a promise that reaches its own head.
            self.assertFalse(shows_reason(log.keeper, number, number, "newer", ((number, number, None),)))
        way = ("meaning", 0, 1, ((0, 0), (0,), (1,), (1,)))
        self.assertFalse(shows_reason(log.keeper, 0, 1, "same", way))

    def test_a_link_over_meanings(self):
        log = self.log(("x", {"weak": "w1"}), ("x", {"weak": "w2"}), ("z", {"weak": "w1"}))
        log.ask("z")
        log.head(self, 3, weak="w2")
        self.check(log, 2, 3, "newer")
        log = self.log(("x", {"weak": "w1"}), ("x", {"weak": "w2"}))
        numbers = [log.ask("z"), log.ask("z")]
        log.head(self, numbers[0], weak="w1")
        log.head(self, numbers[1], weak="w2")
        reason = self.check(log, 2, 3, "newer")
        self.assertIsNotNone(reason[0][2])
        self.check(log, 2, 3, "same", "meaning")
        self.check(log, 3, 2, "older")

    def test_editions_between(self):
        log = self.log(("z", {}))
        numbers = [log.ask("z"), log.ask("z")]
        log.head(self, numbers[0], mark="m1")
        log.head(self, numbers[1], mark="m2")
        log.head(self, log.ask("z"))
        reason = self.check(log, 0, 3, "same", "edition")
        self.assertEqual(sorted(reason[1:3]), [1, 2])

    def test_different_by_what_the_group_knows(self):
        # Answers 0 and 1 tell nothing of their bytes themselves.
        log = self.log(("x", {"mark": "m1"}), ("x", {}), ("x", {"mark": "m1", "length": 2}), ("x", {}),
                       ("x", {"mark": "m2", "length": 3}))
        value = ("edition", 1, 4, (((0, 1, None),), ((1, 2, None), (2, 0, None)), ((0, 4, None),), ()))
        self.assertTrue(shows_reason(log.keeper, 0, 4, "same", value))
        self.assertTrue(Known(log).is_reason(0, 4, "same", value))
        self.assertFalse(shows_reason(log.keeper, 0, 4, "same", ("edition", 1, 3) + value[3:]))

    def test_a_longer_way_is_a_way(self):
        log = self.log(("x", {"weak": "w1"}), ("x", {"weak": "w1"}), ("x", {"weak": "w2"}))
        for way in ((0,), (0, 1, 0), (0, 1, 0, 1, 0)):
            value = ("meaning", 0, 2, (way, way, (0, 1, 2), (2,)))
            self.assertTrue(shows_reason(log.keeper, 0, 2, "same", value))
        for way in ((), (0, 0), (1,), (0, 1), [0], (0, True, 0), (0, 2, 0), (0, None)):
            value = ("meaning", 0, 2, (way, (0,), (0, 1, 2), (2,)))
            self.assertIs(shows_reason(log.keeper, 0, 2, "same", value), Known(log).is_reason(0, 2, "same", value))
        self.assertTrue(shows_reason(log.keeper, 0, 1, "newer", ((0, 1, None),)))
        self.assertFalse(shows_reason(log.keeper, 0, 2, "newer", ((0, 1, None),)))
        self.assertTrue(shows_reason(log.keeper, 0, 2, "newer", ((0, 1, None), (1, 2, None))))
        self.assertFalse(shows_reason(log.keeper, 0, 2, "newer", ((0, 1, None), (0, 2, None))))

    def test_a_changed_answer_is_in_the_world(self):
        log = self.log(("x", {"mark": "m1"}))
        log.changed(self, log.ask("x", only="m1"))
        self.assertIsNone(log.keeper.world(0, 1, "same"))
        self.check(log, 0, 1, "same", "edition")
        world = log.keeper.world(0, 1, "older")
        self.assertEqual([row[0] for row in world], [0, 1])


class Errors(unittest.TestCase):

    def test_the_first_error_that_applies(self):
        keeper = Keeper((("x", None),))
        for _ in range(2):
            keeper.ask("x")
        keeper.head(1)
        # Two methods, and two functions that are handed the keeper.
        deeds = [keeper.reason, keeper.world,
                 lambda a, b, word: shows_reason(keeper, a, b, word, ()),
                 lambda a, b, word: shows_world(keeper, a, b, word, ())]
        for deed in deeds:
            for value in strange_but(1) + [0, 2]:
                check_refused(self, keeper, NoAnswer, value, lambda: deed(value, 7, "no"))
                check_refused(self, keeper, NoAnswer, value, lambda: deed(1, value, "no"))
            for word in strange_but() + ["Older", "newe", "older ", "", ("older",), ["same"], "not older"]:
                check_refused(self, keeper, NoWord, word, lambda: deed(1, 1, word))
        for value in strange_but(1) + [0, 2]:
            check_refused(self, keeper, NoAnswer, value, lambda: shows_ground(keeper, value, 0, (1,)))
            check_refused(self, keeper, NoAnswer, value, lambda: keeper.compared(value, 7))
            check_refused(self, keeper, NoAnswer, value, lambda: keeper.compared(1, value))
            check_refused(self, keeper, NoAnswer, value, lambda: keeper.alike(value, 7))
            check_refused(self, keeper, NoAnswer, value, lambda: keeper.alike(1, value))


if __name__ == "__main__":
    unittest.main()
