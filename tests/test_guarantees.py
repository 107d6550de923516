"""Point 3: guarantees (a) to (f), on drawn histories that are true, up to the 60 asks of point 18."""

import random
import unittest

from oneedition.errors import Broken, Contradiction, Flowing, NotYet
from oneedition.evidence import shows_reason, shows_world
from oneedition.keeper import Keeper
from oneedition.spans import Spans
from oneedition.texts import read_keeper, show_keeper
from tests.helper import COPIES, Hidden, word_of

WORDS = ("older", "same", "newer")


class Twin:
    """One of several keepers for which the same happens; present is under which number each answer stands."""

    def __init__(self, kind, copies, piece):
        self.kind, self.keeper, self.present = kind, Keeper(copies, piece=piece), {}
        # Orders with their streams, which a keeper that is read back does not have.
        self.orders = []

    def do(self, word, given, told):
        result = getattr(self.keeper, word)(*given, **told)
        if word in ("head", "changed"):
            self.present[given[0]] = given[0]
        return result

    def disturb(self, draw):
        """Do what must not be seen from outside."""
        keeper = self.keeper
        if self.kind == "folds" and keeper.answers:
            number = draw.choice(keeper.answers)
            group = next(group for group in keeper.groups() if number in group)
            try:
                least = keeper.fold(number)
            except Flowing:
                return
            self.present = {old: least if now in group else now for old, now in self.present.items()}
        elif self.kind == "tries":
            try:
                keeper.tried(lambda trial: self.trouble(draw))
            except Contradiction:
                pass
        elif self.kind == "reads":
            self.keeper = read_keeper(show_keeper(keeper))
            assert self.keeper == keeper

    def trouble(self, draw):
        keeper = self.keeper
        keeper.wait(draw.randint(1, 5))
        # What is drawn here may not be true, and so it may be refused.
        for number in keeper.open_asks[:2]:
            keeper.head(number)
        for number in keeper.answers[:3]:
            keeper.let_go(number, Spans((0, 2)))
        if keeper.answers and draw.random() < 0.5:
            return keeper.tried(lambda trial: (trial.keep(), keeper.possible("x" if "x" in dict(keeper.copies) else "c")))
        return None


class Histories(unittest.TestCase):

    def run_history(self, seed, most, steps):
        draw = random.Random(seed)
        copies, piece = draw.choice(COPIES), draw.randint(1, 4)
        hidden = Hidden(seed, copies, piece)
        twins = [Twin(kind, copies, piece) for kind in ("plain", "folds", "tries", "reads")]
        for _ in range(steps):
            # No event of a true history is refused: an error here would fail the test.
            event = hidden.event(most)
            self.assertEqual(len({twin.do(*event) for twin in twins}), 1)
            hidden.passes(twins[0].keeper.now)
            self.assertEqual([twin.keeper.now for twin in twins], [hidden.now] * 4)
            for twin in twins[1:]:
                if draw.random() < 0.15:
                    twin.disturb(draw)
            if draw.random() < 0.08:
                self.begin_order(hidden, twins, draw)
            if draw.random() < 0.2:
                self.check_orders(hidden, twins)
            if draw.random() < 0.1:
                self.check(hidden, twins, draw)
        self.check(hidden, twins, draw, 120)
        self.check_orders(hidden, twins)
        return hidden, twins

    def begin_order(self, hidden, twins, draw):
        copy, start = draw.choice(sorted(hidden.copies)), draw.randrange(4)
        spans = draw.choice((Spans((start, start + 3)), Spans(), Spans((0, 1000000))))
        for twin in twins[:3]:
            order = twin.keeper.order(copy, spans)
            twin.orders.append((order, order.stream(), []))

    def told_of(self, twin, a, b):
        """All that is told of two answers but for numbers."""
        keeper, one, other = twin.keeper, twin.present[a], twin.present[b]
        known = keeper.known(one)
        return (keeper.compared(one, other), keeper.alike(one, other), keeper.length(one), known.pairs,
                list(keeper.stretches(one)), keeper.is_whole(one), keeper.byte(one, 2))

    def check(self, hidden, twins, draw, many=15):
        """Look at what all keepers tell of some answers and of what copies have."""
        plain = twins[0].keeper
        numbers = sorted(hidden.answers)
        for _ in range(min(many, len(numbers) ** 2)):
            a, b = draw.choice(numbers), draw.choice(numbers)
            told = self.told_of(twins[0], a, b)
            for twin in twins[1:]:
                self.assertEqual(self.told_of(twin, a, b), told)
            self.check_true(hidden, plain, a, b)
        for copy in hidden.copies:
            self.check_has(hidden, twins, copy)
        groups = plain.groups()
        for twin in twins[1:]:
            self.assertEqual(twin.keeper.groups(), tuple(sorted(
                tuple(sorted({twin.present[number] for number in group})) for group in groups)))

    def check_true(self, hidden, keeper, a, b):
        one, other = hidden.answers[a]["edition"], hidden.answers[b]["edition"]
        self.assertIn(word_of(one.number, other.number), keeper.compared(a, b))
        self.assertIn(one.meaning == other.meaning, keeper.alike(a, b))
        self.assertIn(keeper.length(a), (None, len(one.values)))
        for start, values in keeper.stretches(a):
            self.assertEqual(values, one.values[start:start + len(values)])
        for word in WORDS:
            reason, world = keeper.reason(a, b, word), keeper.world(a, b, word)
            self.assertEqual((reason is None, world is not None), (word in keeper.compared(a, b),) * 2)
            if reason is not None:
                self.assertTrue(shows_reason(keeper, a, b, word, reason))
            else:
                self.assertTrue(shows_world(keeper, a, b, word, world))

    def check_has(self, hidden, twins, copy):
        keeper = twins[0].keeper
        possible = keeper.possible(copy)
        for twin in twins:
            self.assertEqual(twin.keeper.possible(copy), tuple(sorted(twin.present[number] for number in possible)))
        for group in keeper.groups():
            is_so = hidden.answers[group[0]]["edition"].number == hidden.at[copy]
            may, has = keeper.may_have(copy, group[0]), keeper.has(copy, group[0])
            self.assertEqual(may, group[0] in possible)
            self.assertTrue(may or not is_so)
            self.assertTrue(is_so or not has)
            for twin in twins[1:]:
                number = twin.present[group[0]]
                self.assertEqual((twin.keeper.may_have(copy, number), twin.keeper.has(copy, number)), (may, has))

    def check_orders(self, hidden, twins):
        """Look at all orders of three keepers, and take what they offer."""
        for made in zip(*[twin.orders for twin in twins[:3]]):
            told = [self.told_by(twin, order, stream) for twin, (order, stream, _) in zip(twins, made)]
            self.assertEqual(told[1:], told[:1] * 2)
            had, offers, taken, values, asking, more, stream_taken = told[0]
            order, stream, handed = made[0]
            since = hidden.had_since(order.source, order.begun)
            for number in had:
                self.assertIn(hidden.answers[number]["edition"].number, since)
            self.assertLessEqual(set(offers), set(had))
            if taken is not None:
                self.assertIn(taken, offers)
                self.assertEqual(values, self.bytes_at(hidden, taken, order.spans))
            self.check_asking(twins[0].keeper, asking, offers)
            if isinstance(more, tuple):
                handed.extend(more)
            if stream_taken is not None:
                self.assertIn(hidden.answers[stream_taken]["edition"].number, since)
                whole = self.bytes_at(hidden, stream_taken, order.spans)
                self.assertEqual(tuple(handed), whole[:len(handed)])
                if stream.is_done():
                    self.assertEqual(tuple(handed), whole)
            self.counts["taken"] += taken is not None and len(values) > 0
            self.counts["handed"] += len(more) > 0
            self.counts["broken"] += more == "broken"

    def check_asking(self, keeper, asking, offers):
        """With a mark, nothing is asked for that is known of the edition with this mark."""
        self.assertEqual(asking is None, bool(offers))
        if asking is not None and asking[1] is not None:
            self.counts["marks"] += 1
            marks = [number for number in keeper.answers if f"\nmark {asking[1]}" in show_keeper(keeper).split(
                f"\nanswer {number} ")[1].split("\nanswer ")[0]]
            self.assertEqual((keeper.known(marks[0]) & asking[0]).pairs, ())

    def bytes_at(self, hidden, number, spans):
        values = hidden.answers[number]["edition"].values
        return tuple(byte for position, byte in enumerate(values) if position in spans)

    def told_by(self, twin, order, stream):
        """What an order tells, with the numbers that the plain keeper has."""
        plain = {}
        for old, now in sorted(twin.present.items(), reverse=True):
            plain[now] = old
        try:
            number, values = order.take()
            number = plain[number]
        except NotYet:
            number, values = None, None
        try:
            more = stream.more()
        except Broken as error:
            more = "broken"
            plain[error.number]
        taken = stream.taken()
        return (tuple(plain[one] for one in order.had()), tuple(plain[one] for one in order.offers()), number, values,
                order.asking(), more, None if taken is None else plain[taken])

    def setUp(self):
        self.counts = {"taken": 0, "handed": 0, "broken": 0, "marks": 0}

    def test_short_histories(self):
        for seed in range(60):
            with self.subTest(seed=seed):
                self.run_history(seed, 14, 60)
        self.assertGreater(min(self.counts.values()), 5, self.counts)

    def test_histories_of_sixty_asks(self):
        most = 0
        for seed in range(100, 106):
            with self.subTest(seed=seed):
                hidden, twins = self.run_history(seed, 60, 260)
                most = max(most, len(hidden.answers))
        self.assertGreater(most, 50)

    def test_whatever_is_so_in_all_worlds_is_told(self):
        """A copy that is asked often enough is known to have what it has."""
        keeper = Keeper((("x", None), ("y", "x")))
        for at in range(30):
            keeper.head(keeper.ask("x"), mark=f"m{at // 10}")
        self.assertEqual([keeper.compared(a, b) for a, b in ((0, 9), (9, 10), (29, 0), (14, 11))],
                         [("same",), ("older",), ("newer",), ("same",)])


if __name__ == "__main__":
    unittest.main()
