"""Point 16: trials."""

import random
import unittest

from oneedition.errors import Broken, Closed, Contradiction, NotYet, TooMany
from oneedition.keeper import Keeper
from oneedition.spans import Spans
from oneedition.texts import show_keeper
from tests.helper import Drawn, check_refused, shown

XYZ = (("x", None), ("y", "x"), ("z", None))


def told(keeper):
    """All that a keeper tells of its answers."""
    pairs = [(a, b) for a in keeper.answers for b in keeper.answers]
    return (shown(keeper), keeper.groups(), [keeper.compared(a, b) for a, b in pairs],
            [list(keeper.stretches(a)) for a in keeper.answers], [keeper.possible(name) for name, _ in keeper.copies])


class Trials(unittest.TestCase):

    def setUp(self):
        self.keeper = Keeper(XYZ)
        for copy in "xz":
            self.keeper.head(self.keeper.ask(copy), mark="m1", length=3)
        self.keeper.part(0, 0, (1, 2))
        self.keeper.ask("y", Spans((1, 3)), only="m1")

    def work(self):
        """Do something of every kind."""
        keeper = self.keeper
        keeper.wait(7)
        number = keeper.ask("x")
        keeper.head(number, mark="m2")
        keeper.part(number, 0, (9,))
        keeper.changed(2)
        keeper.lost(keeper.ask("z"))
        keeper.let_go(0, Spans((0, 1)))
        for answer in (0, 1, number):
            keeper.ended(answer)
        return keeper.fold(1)

    def test_not_kept(self):
        before = told(self.keeper)
        with self.keeper.trial():
            self.assertEqual(self.work(), 0)
            self.assertNotEqual(told(self.keeper), before)
        self.assertEqual(told(self.keeper), before)
        self.assertEqual(self.keeper.ask("x"), 3)

    def test_kept(self):
        other = Keeper(XYZ)
        with self.keeper.trial() as trial:
            self.assertIsNone(trial.keep())
            self.work()
            inside = told(self.keeper)
        self.assertEqual(told(self.keeper), inside)
        self.assertNotEqual(self.keeper, other)
        self.assertEqual(self.keeper.ask("x"), 5)

    def test_an_error_takes_it_back_and_goes_on(self):
        before = told(self.keeper)
        with self.assertRaises(KeyError) as context:
            with self.keeper.trial() as trial:
                trial.keep()
                self.work()
                raise KeyError("mine")
        self.assertEqual((context.exception.args, told(self.keeper)), (("mine",), before))

        def deed(trial):
            trial.keep()
            self.work()
            raise ZeroDivisionError("mine")

        with self.assertRaises(ZeroDivisionError):
            self.keeper.tried(deed)
        self.assertEqual(told(self.keeper), before)

    def test_an_error_within_that_is_caught(self):
        with self.keeper.trial() as trial:
            trial.keep()
            check_refused(self, self.keeper, Contradiction, (1,), lambda: self.keeper.part(1, 3, (1,)))
            self.keeper.wait(1)
        self.assertEqual(self.keeper.now, 7)

    def test_tried(self):
        before = told(self.keeper)
        self.assertEqual(self.keeper.tried(lambda trial: (self.work(), self.keeper.now)), (0, 22))
        self.assertEqual(told(self.keeper), before)
        self.assertEqual(self.keeper.tried(lambda trial: (trial.keep(), self.keeper.wait(2), [self])), (None, None, [self]))
        self.assertEqual(self.keeper.now, 8)

    def test_within_each_other(self):
        keeper, start = self.keeper, self.keeper.now
        for outer_kept in (True, False):
            for inner_kept in (True, False):
                def deed(trial):
                    keeper.wait(10)
                    with keeper.trial() as inner:
                        keeper.wait(100)
                        if inner_kept:
                            inner.keep()
                    self.assertEqual(keeper.now, start + (110 if inner_kept else 10))
                    if outer_kept:
                        trial.keep()
                    return keeper.now

                def around(trial):
                    return keeper.tried(deed), keeper.now

                inside = start + (110 if inner_kept else 10)
                self.assertEqual(keeper.tried(around), (inside, inside if outer_kept else start))
                self.assertEqual(keeper.now, start)

    def test_keep_is_for_the_block_alone(self):
        keeper = self.keeper
        with keeper.trial() as outer:
            keeper.wait(10)
            outer.keep()
            with keeper.trial():
                keeper.wait(100)
        self.assertEqual(keeper.now, 16)
        with keeper.trial():
            keeper.wait(10)
            with keeper.trial() as inner:
                inner.keep()
                keeper.wait(100)
            self.assertEqual(keeper.now, 126)
        self.assertEqual(keeper.now, 16)

    def test_a_fifth_trial(self):
        keeper = self.keeper
        depths = []

        def deed(trial):
            depths.append(keeper.now)
            keeper.wait(1)
            if len(depths) < 4:
                return keeper.tried(deed)
            check_refused(self, keeper, TooMany, 4, lambda: keeper.tried(deed))

            def block():
                with keeper.trial():
                    depths.append("never")

            check_refused(self, keeper, TooMany, 4, block)
            # Another keeper has trials of its own.
            self.assertEqual(Keeper(XYZ).tried(lambda inner: 5), 5)
            return keeper.now

        self.assertEqual(keeper.tried(deed), 10)
        self.assertEqual((depths, keeper.now), ([6, 7, 8, 9], 6))
        for _ in range(9):
            keeper.tried(lambda trial: keeper.tried(lambda inner: keeper.tried(lambda third: None)))

    def test_drawn_histories(self):
        for seed in range(60):
            drawn, twin = Drawn(self, seed, 5), Drawn(self, seed, 5)
            draw = random.Random(seed)
            for _ in range(25):
                drawn.step()
                twin.step()
                if draw.random() < 0.3:
                    twin.log.keeper.tried(lambda trial: self.disturb(twin.log.keeper, draw))
            self.assertEqual(told(twin.log.keeper), told(drawn.log.keeper))

    def disturb(self, keeper, draw):
        """Do what comes to mind."""
        for copy in draw.choice((("x",), tuple(name for name, _ in keeper.copies))):
            if copy in dict(keeper.copies):
                keeper.head(keeper.ask(copy))
        for number in keeper.answers:
            keeper.let_go(number, Spans((0, 2)))
        keeper.wait(3)


class Orders(unittest.TestCase):
    """Orders and streams are for the trial in which they were made."""

    def usable(self, order, stream):
        """Whether an order and its stream can be used."""
        found = set()
        for deed in (order.had, order.offers, order.asking, order.take, order.stream, stream.more, stream.taken,
                     stream.is_done):
            try:
                deed()
                found.add(True)
            except Closed:
                found.add(False)
            except (NotYet, Broken):
                found.add(True)
        self.assertEqual(len(found), 1)
        self.assertEqual((order.source, order.begun, order.spans), ("x", order.begun, Spans((0, 2))))
        return found.pop()

    def made(self, keeper):
        order = keeper.order("x", Spans((0, 2)))
        return order, order.stream()

    def test_where_they_can_be_used(self):
        for kept in (True, False):
            keeper = Keeper(XYZ)
            outside = self.made(keeper)
            with keeper.trial() as first:
                self.assertFalse(self.usable(*outside))
                with self.assertRaises(Closed):
                    outside[0].close()
                inside = self.made(keeper)
                self.assertTrue(self.usable(*inside))
                with keeper.trial() as second:
                    self.assertEqual([self.usable(*made) for made in (outside, inside)], [False, False])
                    within = self.made(keeper)
                    self.assertTrue(self.usable(*within))
                    if kept:
                        second.keep()
                self.assertEqual([self.usable(*made) for made in (outside, inside, within)], [False, True, False])
                if kept:
                    first.keep()
            self.assertEqual([self.usable(*made) for made in (outside, inside, within)], [True, False, False])
            # Another trial at the same depth is not the one in which they were made.
            with keeper.trial():
                self.assertEqual([self.usable(*made) for made in (outside, inside, within)], [False] * 3)
                with keeper.trial():
                    self.assertEqual([self.usable(*made) for made in (outside, inside, within)], [False] * 3)
            self.assertTrue(self.usable(*outside))

    def test_behind_an_error(self):
        keeper = Keeper(XYZ)
        order, stream = self.made(keeper)
        with self.assertRaises(KeyError):
            with keeper.trial():
                raise KeyError()
        self.assertTrue(self.usable(order, stream))

    def test_it_goes_on_behind_a_trial(self):
        keeper = Keeper(XYZ)
        order, stream = self.made(keeper)
        keeper.head(keeper.ask("x"))
        keeper.part(0, 0, (5,))
        self.assertEqual(stream.more(), (5,))
        with keeper.trial():
            keeper.part(0, 1, (6,))
        self.assertEqual([stream.more(), order.offers()], [(), ()])
        with keeper.trial() as trial:
            keeper.part(0, 1, (7,))
            trial.keep()
        self.assertEqual([stream.more(), order.offers(), stream.is_done()], [(7,), (0,), True])

    def test_a_fold_that_is_taken_back(self):
        keeper = Keeper(XYZ)
        order, stream = self.made(keeper)
        for copy in "zx":
            keeper.head(keeper.ask(copy), mark="m1")
            keeper.ended(keeper.answers[-1])
        self.assertEqual([stream.more(), stream.taken()], [(), 0])
        with keeper.trial():
            keeper.fold(1)
        self.assertEqual([stream.taken(), keeper.answers], [0, (0, 1)])

    def test_a_block_of_an_order_within_a_trial(self):
        keeper = Keeper(XYZ)
        with keeper.trial():
            with keeper.order("x", Spans((0, 2))) as order:
                self.assertEqual(order.had(), ())
            self.assertEqual(keeper.ordered("x", Spans(), lambda held: held.had()), ())
        with self.assertRaises(Closed):
            order.had()

    def test_the_end_of_a_block_elsewhere(self):
        keeper = Keeper(XYZ)
        trial = keeper.trial()
        with keeper.order("x", Spans((0, 2))) as order:
            trial.__enter__()
        trial.__exit__(None, None, None)
        with self.assertRaises(Closed):
            order.had()

    def test_text_within_a_trial(self):
        keeper = Keeper(XYZ)
        text = show_keeper(keeper)
        keeper.tried(lambda trial: self.assertEqual(show_keeper(keeper), text))


if __name__ == "__main__":
    unittest.main()
