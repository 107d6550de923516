"""Point 14: orders."""

import random
import unittest

from oneedition.errors import BadSpans, Closed, NoCopy, NotYet
from oneedition.keeper import Keeper
from oneedition.spans import Spans
from tests.helper import Drawn, Known, any_values, check_refused, shown, strange_but

XYZ = (("x", None), ("y", "x"), ("z", None))
DEEDS = ("had", "offers", "take", "asking", "stream", "close")


class Drawings(unittest.TestCase):
    """Orders beside all worlds of a drawn history, in which they begin at any time."""

    def had(self, log, order):
        """The least numbers of the groups that were had, by all worlds with an answer that is not there."""
        numbers = sorted(log.facts)
        laid = list(log.worlds(log.ghost(order.source, order.begun, order.begun)))
        found = []
        for group in log.keeper.groups():
            at = numbers.index(group[0])
            under = any(order.source in log.above[place[0]] for number in group for place in log.facts[number].places)
            if under and all(world[-1][0] <= world[at][0] for world in laid):
                found.append(group[0])
        return tuple(found)

    def missing(self, known, spans, number):
        """The positions of spans of which the byte is not known, but may be there."""
        length = known.values(number, "length")
        table = known.bytes(number)
        return [position for position in range(8) if position in spans and position not in table
                and (length is None or position < length)]

    def newest(self, keeper, numbers):
        return [number for number in numbers
                if not any(keeper.compared(other, number) == ("newer",) for other in numbers)]

    def check(self, log, order):
        keeper, known = log.keeper, Known(log)
        had = self.had(log, order)
        self.assertEqual(order.had(), had)
        offers = tuple(number for number in had if not self.missing(known, order.spans, number))
        self.assertEqual(order.offers(), offers)
        if not offers:
            with self.assertRaises(NotYet):
                order.take()
            self.check_asking(log, known, order)
            return False
        self.assertIsNone(order.asking())
        number = self.newest(keeper, offers)[0]
        table = known.bytes(number)
        self.assertEqual(order.take(), (number, tuple(table[at] for at in range(8) if at in order.spans and at in table)))
        return True

    def check_asking(self, log, known, order):
        found = [((len(order.spans), 1, 0), order.spans, None)]
        for group in log.keeper.groups():
            mark = known.values(group[0], "mark")
            if mark is not None and log.keeper.may_have(order.source, group[0]):
                missing = self.missing(known, order.spans, group[0])
                spans = Spans(*[(position, position + 1) for position in missing])
                found.append(((len(missing), 0, group[0]), spans, mark))
        _, spans, only = min(found, key=lambda row: row[0])
        self.assertEqual(order.asking(), (spans, only))

    def test_drawn_histories(self):
        offered, marked = 0, 0
        for seed in range(250):
            draw = random.Random(seed)
            drawn = Drawn(self, seed, 4, often=("bytes", "marks") if seed % 2 else ("promises",))
            orders = []
            for _ in range(30):
                drawn.step()
                log = drawn.log
                if len(orders) < 4 and draw.random() < 0.3:
                    start = draw.randrange(4)
                    spans = draw.choice((Spans((start, start + draw.randint(1, 3))), Spans(), Spans((0, 1), (2, 4))))
                    orders.append(log.keeper.order(draw.choice(log.copies)[0], spans))
            for order in orders:
                with self.subTest(seed=seed, begun=order.begun, source=order.source, pairs=order.spans.pairs):
                    offered += self.check(log, order)
                    marked += order.asking() is not None and order.asking()[1] is not None
        self.assertGreater(offered, 60)
        self.assertGreater(marked, 30)


class Orders(unittest.TestCase):

    def test_properties(self):
        keeper = Keeper(XYZ)
        keeper.wait(3)
        spans = Spans((0, 4))
        order = keeper.order("y", spans)
        self.assertEqual([order.source, order.spans, order.begun], ["y", spans, 3])
        keeper.wait(1)
        order.close()
        self.assertEqual([order.source, order.spans, order.begun], ["y", spans, 3])

    def test_the_first_error_that_applies(self):
        keeper = Keeper(XYZ)
        done = []
        for copy in strange_but("x") + [("x",), "w"]:
            for deed in (lambda: keeper.order(copy, 3), lambda: keeper.ordered(copy, 3, done.append)):
                check_refused(self, keeper, NoCopy, copy, deed)
        for spans in any_values() + strange_but():
            for deed in (lambda: keeper.order("x", spans), lambda: keeper.ordered("x", spans, done.append)):
                check_refused(self, keeper, BadSpans, spans, deed)
        self.assertEqual(done, [])

    def check_closed(self, order):
        for word in DEEDS:
            with self.assertRaises(Closed):
                getattr(order, word)()

    def test_closed(self):
        keeper = Keeper(XYZ)
        order, other = keeper.order("x", Spans()), keeper.order("x", Spans())
        stream = order.stream()
        self.assertIsNone(order.close())
        self.check_closed(order)
        for word in ("more", "taken", "is_done"):
            with self.assertRaises(Closed):
                getattr(stream, word)()
        self.assertEqual(other.had(), ())

    def test_the_end_of_a_block_closes(self):
        keeper = Keeper(XYZ)
        with keeper.order("x", Spans()) as order:
            self.assertEqual(order.had(), ())
        self.check_closed(order)
        with keeper.order("x", Spans()) as order:
            order.close()
        self.check_closed(order)
        with self.assertRaises(KeyError):
            with keeper.order("x", Spans()) as order:
                raise KeyError("mine")
        self.check_closed(order)

    def test_ordered(self):
        keeper = Keeper(XYZ)
        orders = []

        def deed(order):
            orders.append(order)
            return order.source, order.spans.pairs, order.had()

        def fails(order):
            orders.append(order)
            raise ZeroDivisionError("mine")

        def closes(order):
            orders.append(order)
            order.close()
            return [order]

        self.assertEqual(keeper.ordered("y", Spans((2, 3)), deed), ("y", ((2, 3),), ()))
        with self.assertRaises(ZeroDivisionError):
            keeper.ordered("x", Spans(), fails)
        self.assertEqual(keeper.ordered("x", Spans(), closes), [orders[2]])
        self.assertEqual(len(orders), 3)
        for order in orders:
            self.check_closed(order)

    def test_orders_change_nothing(self):
        keeper = Keeper(XYZ)
        keeper.head(keeper.ask("x"), mark="m1")
        before = shown(keeper)
        order = keeper.order("x", Spans((0, 2)))
        order.asking(), order.had(), order.offers(), order.stream().more(), order.close()
        self.assertEqual(shown(keeper), before)

    def test_what_the_copy_had_earlier_is_no_offer(self):
        keeper = Keeper(XYZ)
        keeper.head(keeper.ask("x"), mark="m1", length=1)
        keeper.part(0, 0, (5,))
        order = keeper.order("x", Spans((0, 1)))
        self.assertEqual(order.had(), ())
        keeper.changed(keeper.ask("x", only="m1"))
        self.assertEqual([order.had(), order.offers()], [(1,), ()])
        with self.assertRaises(NotYet):
            order.take()

    def test_positions_from_the_length_on_do_not_count(self):
        keeper = Keeper(XYZ)
        order, beyond = keeper.order("x", Spans((1, 9))), keeper.order("x", Spans((2, 1000000)))
        keeper.head(keeper.ask("x"), mark="m1", length=2)
        self.assertEqual([order.offers(), beyond.offers(), beyond.take()], [(), (0,), (0, ())])
        keeper.part(0, 1, (5,))
        self.assertEqual([order.offers(), order.take()], [(0,), (0, (5,))])

    def test_a_length_of_zero_and_of_all(self):
        keeper = Keeper(XYZ)
        order = keeper.order("x", Spans((0, 1), (999999, 1000000)))
        keeper.head(keeper.ask("x"), mark="m1", length=0)
        self.assertEqual(order.take(), (0, ()))
        keeper.head(keeper.ask("x"), mark="m2", length=1000000)
        keeper.part(1, 999999, (7,))
        self.assertEqual(order.offers(), (0,))
        keeper.part(1, 0, (6,))
        self.assertEqual([order.offers(), order.take()], [(0, 1), (1, (6, 7))])

    def test_an_order_for_no_positions(self):
        keeper = Keeper(XYZ)
        order = keeper.order("x", Spans())
        self.assertEqual([order.had(), order.asking()], [(), (Spans(), None)])
        keeper.head(keeper.ask("x"), mark="m1")
        self.assertEqual([order.had(), order.offers(), order.take(), order.asking()], [(0,), (0,), (0, ()), None])
        later = keeper.order("x", Spans())
        self.assertEqual([later.had(), later.asking()], [(), (Spans(), "m1")])
        # An ask for no positions is a question whether the copy still has this edition.
        spans, only = later.asking()
        number = keeper.ask("x", spans, only=only)
        self.assertEqual(keeper.tried(lambda trial: keeper.head(number)), None)
        keeper.head(number)
        self.assertEqual([later.had(), later.take(), later.asking()], [(0,), (0, ()), None])

    def test_an_ask_for_no_positions_is_answered_by_changed(self):
        keeper = Keeper(XYZ)
        keeper.head(keeper.ask("x"), mark="m1")
        order = keeper.order("x", Spans())
        keeper.changed(keeper.ask("x", Spans(), only="m1"))
        self.assertEqual([order.had(), order.take(), keeper.has("x", 0), keeper.may_have("x", 0)],
                         [(1,), (1, ()), False, False])

    def test_asking_for_fewest_positions(self):
        keeper = Keeper(XYZ)
        for mark, part in (("m1", (0, (1, 2))), ("m2", (0, (1, 2, 3)))):
            keeper.head(keeper.ask("z"), mark=mark)
            keeper.part(keeper.answers[-1], *part)
        order = keeper.order("x", Spans((0, 4)))
        self.assertEqual(order.asking(), (Spans((3, 4)), "m2"))
        keeper.let_go(1, Spans((0, 1)))
        self.assertEqual(order.asking(), (Spans((2, 4)), "m1"))
        # With as many positions as the order has, a mark is ahead of none.
        keeper.let_go(0, Spans((0, 9)))
        keeper.let_go(1, Spans((0, 9)))
        self.assertEqual(order.asking(), (Spans((0, 4)), "m1"))
        keeper.changed(keeper.ask("x", only="m1"))
        keeper.head(keeper.ask("x"), mark="m2")
        keeper.changed(keeper.ask("x", only="m2"))
        self.assertEqual(order.asking(), (Spans((0, 4)), None))

    def test_the_newest_offer(self):
        keeper = Keeper(XYZ)
        order = keeper.order("x", Spans())
        for mark in ("m1", "m2", "m3"):
            keeper.head(keeper.ask("x"), mark=mark)
        self.assertEqual([order.offers(), order.take()], [(0, 1, 2), (2, ())])
        keeper = Keeper(XYZ)
        order = keeper.order("x", Spans())
        numbers = [keeper.ask("x") for _ in range(3)]
        for number in numbers[::-1]:
            keeper.head(number, mark=f"m{number}")
        # Nobody knows which of them is newer.
        self.assertEqual(order.take(), (0, ()))


if __name__ == "__main__":
    unittest.main()
