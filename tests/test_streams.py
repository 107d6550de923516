"""Point 15: streams."""

import random
import unittest

from oneedition.errors import Broken, Closed
from oneedition.keeper import Keeper
from oneedition.spans import Spans
from tests.helper import Drawn, Known, shown

XYZ = (("x", None), ("y", "x"), ("z", None))
BIG = 10 ** 12


class Followed:
    """A stream, and beside it what a test knows of it."""

    def __init__(self, test, log, order):
        self.test, self.log, self.order, self.stream = test, log, order, order.stream()
        self.number, self.behind = None, -1

    def can_be_of(self, number, ghost):
        at = sorted(self.log.facts).index(number)
        return any(world[-1][0] == world[at][0] for world in self.log.worlds(ghost))

    def is_broken(self, known, number):
        """Whether no answer to come can be of an edition of which no names are known and all answers ended."""
        log = self.log
        if known.values(number, "names") is not None:
            return False
        if any(not log.facts[other].ended and not log.facts[other].nots for other in known.groups[number]):
            return False
        ghosts = [log.ghost(copy, BIG, log.time) for copy, _ in log.copies]
        ghosts += [log.ghost(copy, BIG, sent, only) for copy, sent, only in log.asks.values()]
        return not any(self.can_be_of(number, ghost) for ghost in ghosts)

    def edition(self):
        if self.number is not None:
            return self.number
        had = self.order.had()
        newest = [one for one in had if not any(self.log.keeper.compared(other, one) == ("newer",) for other in had)]
        return newest[0] if newest else None

    def left(self, known, number):
        length = known.values(number, "length")
        return [at for at in range(8) if at in self.order.spans and at > self.behind and (length is None or at < length)]

    def check(self):
        """Call more, and look at it and at all that the stream tells behind it."""
        test, stream, number = self.test, self.stream, self.edition()
        if number is None:
            test.assertEqual([stream.more(), stream.taken(), stream.is_done()], [(), None, False])
            return "none"
        known = Known(self.log)
        number, table = known.groups[number][0], known.bytes(number)
        left = self.left(known, number)
        many = ([at in table for at in left] + [False]).index(False)
        if many == 0 and left and self.is_broken(known, number):
            with test.assertRaises(Broken) as context:
                stream.more()
            test.assertEqual(context.exception.number, number)
            taken = None if self.number is None else number
            test.assertEqual([stream.taken(), stream.is_done()], [taken, False])
            return "broken"
        test.assertEqual(stream.more(), tuple(table[at] for at in left[:many]))
        test.assertEqual([stream.taken(), stream.is_done()], [number, many == len(left)])
        self.number = number
        if many:
            self.behind = left[many - 1]
        return "done" if many == len(left) else "waits"


class Drawings(unittest.TestCase):
    """Streams beside all worlds of a drawn history."""

    def test_drawn_histories(self):
        found = {}
        for seed in range(300):
            draw = random.Random(seed)
            kinds = "marks weaks bytes lengths promises changed drops ends".split() + ["names"] * (seed % 2)
            drawn = Drawn(self, seed, 4, kinds, ("ends", "marks") if seed % 3 else ("weaks", "bytes"))
            log, streams = drawn.log, []
            for _ in range(40):
                drawn.step()
                if len(streams) < 4 and draw.random() < 0.2:
                    start = draw.randrange(3)
                    order = log.keeper.order(draw.choice(log.copies)[0], Spans((start, start + 3)))
                    streams.append(Followed(self, log, order))
                for stream in streams:
                    if draw.random() < 0.2:
                        with self.subTest(seed=seed, begun=stream.order.begun, source=stream.order.source):
                            told = stream.check()
                            found[told] = found.get(told, 0) + 1
        for word in ("none", "broken", "done", "waits"):
            self.assertGreater(found[word], 50, found)


class Streams(unittest.TestCase):

    def setUp(self):
        self.keeper = Keeper(XYZ)

    def answer(self, copy="x", *parts, **told):
        number = self.keeper.ask(copy)
        self.keeper.head(number, **told)
        for start, values in parts:
            self.keeper.part(number, start, values)
        return number

    def test_it_stays_with_its_edition(self):
        stream = self.keeper.order("x", Spans((0, 4))).stream()
        self.answer("x", (0, (1, 2)), mark="m1")
        self.assertEqual([stream.more(), stream.taken()], [(1, 2), 0])
        self.answer("x", (0, (5, 6, 7, 8)), mark="m2")
        self.assertEqual([stream.more(), stream.taken()], [(), 0])
        self.keeper.part(0, 2, (3, 4, 5))
        self.assertEqual([stream.more(), stream.taken(), stream.is_done(), stream.more()], [(3, 4), 0, True, ()])

    def test_several_streams_of_one_order(self):
        order = self.keeper.order("x", Spans((0, 2), (4, 6)))
        first = order.stream()
        self.answer("x", (0, (1, 2, 3, 4, 5)))
        self.assertEqual([first.more(), first.more(), first.is_done()], [(1, 2, 5), (), False])
        second = order.stream()
        self.assertEqual([second.taken(), second.is_done(), second.more()], [None, False, (1, 2, 5)])
        self.keeper.part(0, 5, (6, 7))
        self.assertEqual([first.more(), second.more(), first.is_done()], [(6,), (6,), True])

    def test_an_edition_of_which_nothing_is_known(self):
        stream = self.keeper.order("x", Spans((0, 1))).stream()
        self.assertEqual(stream.more(), ())
        self.answer("x")
        self.assertEqual([stream.taken(), stream.more(), stream.taken()], [None, (), 0])

    def test_no_positions(self):
        stream = self.keeper.order("x", Spans()).stream()
        self.assertEqual([stream.more(), stream.is_done()], [(), False])
        self.answer("x")
        self.assertEqual([stream.is_done(), stream.more(), stream.is_done()], [False, (), True])

    def test_a_length_that_comes_later(self):
        stream = self.keeper.order("x", Spans((0, 9))).stream()
        self.answer("x", (0, (1, 2)), mark="m1")
        self.assertEqual([stream.more(), stream.is_done()], [(1, 2), False])
        self.answer("z", mark="m1", length=2)
        self.assertEqual([stream.more(), stream.is_done()], [(), True])

    def test_a_length_of_zero(self):
        stream = self.keeper.order("x", Spans((0, 9))).stream()
        self.answer("x", length=0)
        self.assertEqual([stream.more(), stream.taken(), stream.is_done()], [(), 0, True])

    def test_bytes_that_were_let_go_are_not_handed_on_again(self):
        stream = self.keeper.order("x", Spans((0, 4))).stream()
        self.answer("x", (0, (1, 2)), (3, (4,)))
        self.assertEqual(stream.more(), (1, 2))
        self.keeper.let_go(0, Spans((0, 4)))
        self.assertEqual(stream.more(), ())
        self.keeper.part(0, 0, (1, 2, 3, 4))
        self.assertEqual([stream.more(), stream.is_done()], [(3, 4), True])

    def test_the_group_gets_a_lesser_number(self):
        self.keeper.ask("z")
        stream = self.keeper.order("x", Spans((0, 1))).stream()
        self.answer("x", mark="m1")
        self.assertEqual([stream.more(), stream.taken()], [(), 1])
        self.keeper.head(0, mark="m1")
        self.assertEqual(stream.taken(), 0)

    def test_a_stream_goes_on_behind_a_fold(self):
        self.answer("z", mark="m1")
        stream = self.keeper.order("x", Spans((0, 3))).stream()
        for number in (1, 2):
            self.answer("x", (number - 1, (number,)), mark="m1" if number == 1 else None)
        self.keeper.ended(0)
        self.keeper.ended(1)
        # Answer 2 may be newer, so it is taken; it comes to the group of the others later.
        self.assertEqual([stream.more(), stream.taken()], [(1,), 0])
        self.keeper.head(self.keeper.ask("x"), mark="m1")
        for number in (2, 3):
            self.keeper.ended(number)
        self.assertEqual([self.keeper.fold(2), self.keeper.answers], [0, (0,)])
        self.assertEqual([stream.more(), stream.taken()], [(2,), 0])

    def check_broken(self, stream, number, taken):
        before = shown(self.keeper)
        for _ in range(2):
            with self.assertRaises(Broken) as context:
                stream.more()
            self.assertEqual(context.exception.number, number)
            self.assertEqual([stream.taken(), stream.is_done(), shown(self.keeper)], [taken, False, before])

    def test_broken(self):
        self.keeper = Keeper((("x", None),))
        stream = self.keeper.order("x", Spans((0, 3))).stream()
        self.answer("x", (0, (1,)), mark="m1")
        self.assertEqual([stream.more(), stream.more()], [(1,), ()])
        late = self.keeper.ask("x", only="m1")
        self.keeper.ended(0)
        self.keeper.changed(self.keeper.ask("x", only="m1"))
        # The answer that is still under way may be of this edition, and no other one can.
        self.assertEqual(stream.more(), ())
        self.keeper.lost(late)
        self.check_broken(stream, 0, 0)

    def test_not_broken_as_long_as_another_copy_may_have_it(self):
        self.keeper = Keeper((("x", None), ("y", "x")))
        stream = self.keeper.order("x", Spans((0, 3))).stream()
        self.answer("x", mark="m1")
        self.keeper.ended(0)
        self.answer("x", mark="m2")
        self.assertEqual([stream.more(), stream.taken()], [(), 1])
        stream = self.keeper.order("x", Spans((0, 3))).stream()
        self.answer("x", mark="m2")
        self.assertEqual([stream.more(), stream.taken()], [(), 1])
        for number in (1, 2):
            self.keeper.ended(number)
        self.answer("x", mark="m3")
        self.assertEqual(stream.more(), ())
        self.answer("y", mark="m3")
        self.check_broken(stream, 1, 1)

    def test_not_broken_as_long_as_an_answer_flows(self):
        self.keeper = Keeper((("x", None),))
        stream = self.keeper.order("x", Spans((0, 3))).stream()
        self.answer("x", mark="m1")
        self.answer("x", mark="m1")
        self.assertEqual([stream.more(), stream.taken()], [(), 0])
        self.keeper.ended(0)
        self.answer("x", mark="m2")
        self.assertEqual(stream.more(), ())
        self.keeper.ended(1)
        self.check_broken(stream, 0, 0)

    def test_not_broken_before_all_known_bytes_are_returned(self):
        self.keeper = Keeper((("x", None),))
        stream = self.keeper.order("x", Spans((0, 3))).stream()
        self.answer("x", mark="m1")
        self.assertEqual(stream.more(), ())
        self.keeper.part(0, 0, (1,))
        self.keeper.ended(0)
        self.answer("x", mark="m2")
        self.assertEqual(stream.more(), (1,))
        self.check_broken(stream, 0, 0)

    def test_no_edition_is_taken_by_the_call_that_is_broken(self):
        self.keeper = Keeper((("x", None),))
        stream = self.keeper.order("x", Spans((0, 3))).stream()
        self.answer("x")
        self.keeper.ended(0)
        numbers = [self.keeper.ask("x"), self.keeper.ask("x")]
        for number in numbers:
            self.keeper.head(number, mark=f"m{number}")
        # 0 may be the edition of 1 or of 2, so none is newer in all worlds; but the copy does not have it now.
        self.assertEqual(self.keeper.possible("x"), (1, 2))
        self.check_broken(stream, 0, None)
        self.answer("x", (0, (7, 8, 9)), mark="m3")
        self.assertEqual([stream.more(), stream.taken(), stream.is_done()], [(7, 8, 9), 3, True])

    def test_names_may_tell_the_byte_yet(self):
        keeper = Keeper((("x", None),))
        stream = keeper.order("x", Spans((0, 3))).stream()
        keeper.head(keeper.ask("x"), mark="m1", length=3, names=("p",))
        keeper.ended(0)
        keeper.head(keeper.ask("x"), mark="m2", length=5, names=("q", "r"))
        self.assertEqual([stream.more(), stream.taken()], [(), 1])
        other = keeper.order("x", Spans((0, 3))).stream()
        keeper.ended(1)
        keeper.head(keeper.ask("x"), mark="m3")
        self.assertEqual([stream.more(), other.more(), other.taken()], [(), (), 2])
        keeper.ended(2)
        keeper.head(keeper.ask("x"), mark="m4")
        with self.assertRaises(Broken):
            other.more()
        self.assertEqual(stream.more(), ())

    def test_an_open_ask_for_another_mark(self):
        keeper = Keeper((("x", None),))
        stream = keeper.order("x", Spans((0, 3))).stream()
        keeper.head(keeper.ask("x"), mark="m1")
        keeper.ended(0)
        self.assertEqual(stream.more(), ())
        other, own = keeper.ask("x", only="m2"), keeper.ask("x", only="m1")
        keeper.head(keeper.ask("x"), mark="m3")
        self.assertEqual(stream.more(), ())
        keeper.changed(own)
        with self.assertRaises(Broken):
            stream.more()
        keeper.lost(other)

    def test_closed(self):
        order = self.keeper.order("x", Spans((0, 3)))
        stream = order.stream()
        self.answer("x", (0, (1,)))
        stream.more()
        order.close()
        for deed in (stream.more, stream.taken, stream.is_done):
            with self.assertRaises(Closed):
                deed()


if __name__ == "__main__":
    unittest.main()
