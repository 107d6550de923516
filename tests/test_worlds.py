"""Points 7 to 10 and 13 to 15 beside all worlds that the rules of point 7 allow, laid out by the test."""

import unittest

from oneedition.evidence import shows_reason, shows_world
from tests.helper import COPIES, Drawn, Log, word_of

WORDS = ("older", "same", "newer")


class Beside(unittest.TestCase):

    def pairs(self, log):
        numbers = sorted(log.facts)
        return [(at, index, one, other) for at, one in enumerate(numbers) for index, other in enumerate(numbers)]

    def check_comparing(self, log):
        """compared, alike, reason, world, groups."""
        laid = list(log.worlds())
        self.assertTrue(laid)
        keeper = log.keeper
        for at, index, one, other in self.pairs(log):
            found = {word_of(world[at][0], world[index][0]) for world in laid}
            self.assertEqual(keeper.compared(one, other), tuple(word for word in WORDS if word in found))
            alike = {world[at][1] == world[index][1] for world in laid}
            self.assertEqual(keeper.alike(one, other), tuple(truth for truth in (False, True) if truth in alike))
            for word in WORDS:
                self.check_evidence(log, one, other, word, word in found)
        groups = {tuple(other for index, other in enumerate(sorted(log.facts))
                        if all(world[at][0] == world[index][0] for world in laid))
                  for at in range(len(log.facts))}
        self.assertEqual(keeper.groups(), tuple(sorted(groups)))

    def check_evidence(self, log, one, other, word, may):
        reason, world = log.keeper.reason(one, other, word), log.keeper.world(one, other, word)
        self.assertEqual((reason is None, world is None), (may, not may))
        if may:
            self.assertTrue(shows_world(log.keeper, one, other, word, world))
        else:
            self.assertTrue(shows_reason(log.keeper, one, other, word, reason))

    def check_having(self, log):
        """may_have, has, possible; and which editions an order has had."""
        keeper = log.keeper
        numbers = sorted(log.facts)
        for copy, _ in log.copies:
            laid = list(log.worlds(log.ghost(copy, log.time, log.time)))
            may = []
            for at, number in enumerate(numbers):
                found = {world[at][0] == world[-1][0] for world in laid}
                self.assertEqual((keeper.may_have(copy, number), keeper.has(copy, number)),
                                 (True in found, False not in found))
                if True in found:
                    may.append(number)
            least = tuple(group[0] for group in keeper.groups() if group[0] in may)
            self.assertEqual(keeper.possible(copy), least)


class Drawings(Beside):

    def check_seeds(self, seeds, most, kinds, often=""):
        for seed in seeds:
            with self.subTest(seed=seed, most=most, kinds=kinds):
                log = Drawn(self, seed, most, kinds.split(), often.split()).run()
                self.check_comparing(log)
                self.check_having(log)

    def test_marks(self):
        self.check_seeds(range(150), 4, "marks promises changed")

    def test_weak_marks(self):
        self.check_seeds(range(150), 4, "marks weaks promises")

    def test_bytes_and_lengths(self):
        self.check_seeds(range(150), 4, "marks bytes lengths promises drops")

    def test_names(self):
        self.check_seeds(range(150), 4, "bytes lengths names drops", "bytes lengths names")
        self.check_seeds(range(150), 4, "bytes lengths names drops marks promises", "bytes lengths names")

    def test_everything(self):
        self.check_seeds(range(400), 4, "marks weaks bytes lengths names promises changed drops")

    def test_five_answers(self):
        self.check_seeds(range(60), 5, "marks weaks bytes lengths names promises changed drops")


if __name__ == "__main__":
    unittest.main()
