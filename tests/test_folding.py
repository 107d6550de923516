"""Point 12: folding."""

import random
import unittest

from oneedition.errors import Contradiction, Flowing, NoAnswer, NoHead
from oneedition.keeper import Keeper
from oneedition.spans import Spans
from oneedition.texts import read_keeper, show_keeper
from tests.helper import check_refused, strange_but

XYZ = (("x", None), ("y", "x"), ("z", None))


class Folds(unittest.TestCase):

    def setUp(self):
        self.keeper = Keeper(XYZ, piece=2)

    def answer(self, copy, *parts, only=None, **told):
        number = self.keeper.ask(copy, only=only)
        self.keeper.head(number, **told)
        for start, values in parts:
            self.keeper.part(number, start, values)
        return number

    def end(self, *numbers):
        for number in numbers:
            self.keeper.ended(number)

    def test_everything_that_was_told(self):
        keeper = self.keeper
        self.answer("z", (0, (1,)), mark="m1", weak="w1")
        self.answer("x", (3, (4,)), mark="m1", length=5, names=("p", "q", "r"), until=40)
        keeper.changed(keeper.ask("x", only="m2"))
        self.answer("y", (1, (2, 3)), only="m1")
        self.answer("z", mark="m9")
        self.end(0, 1, 3, 4)
        self.assertEqual(keeper.groups(), ((0, 1, 2, 3), (4,)))
        self.assertEqual([keeper.fold(2), keeper.answers, keeper.groups()], [0, (0, 4), ((0,), (4,))])
        self.assertEqual([keeper.sightings(0), keeper.length(0), list(keeper.stretches(0))],
                         [(("x", 5, 40), ("y", 10, 9), ("z", 2, 1)), 5, [(0, (1, 2, 3, 4))]])
        wanted = ("answer 0 ended\nat x 5 40\nat y 10 9\nat z 2 1\nmark m1\nweak w1\nlength 5\nnames p q r\nnot m2\n"
                  "bytes 0 1 2 3 4\nanswer 4 ended\nat z 13 12\nmark m9")
        self.assertTrue(show_keeper(keeper).endswith(wanted), show_keeper(keeper))

    def test_gone_numbers(self):
        for _ in range(3):
            self.answer("x", mark="m1")
        self.end(0, 1, 2)
        self.keeper.fold(1)
        for number in (1, 2):
            check_refused(self, self.keeper, NoAnswer, number, lambda: self.keeper.fold(number))
            check_refused(self, self.keeper, NoHead, number, lambda: self.keeper.part(number, 0, (1,)))
        self.assertEqual(self.keeper.ask("x"), 3)

    def test_the_least_first_and_the_greatest_last_of_each_copy(self):
        self.keeper.ask("x")
        self.answer("x", mark="m1", until=30)
        self.answer("y", mark="m1")
        self.answer("x", mark="m1")
        self.keeper.head(0, mark="m1")
        self.end(0, 1, 2, 3)
        self.assertEqual(self.keeper.sightings(0), (("x", 8, 1),))
        self.keeper.fold(0)
        self.assertEqual(self.keeper.sightings(0), (("x", 3, 30), ("y", 5, 4)))

    def test_rule_3_holds_by_one_of_the_sightings(self):
        keeper = self.keeper
        self.answer("x", mark="m1")
        self.answer("z", mark="m1")
        self.end(0, 1)
        keeper.fold(0)
        for copy in "xz":
            self.answer(copy)
        self.assertEqual([keeper.compared(2, 0), keeper.compared(3, 0)], [("same", "newer")] * 2)
        # Both copies had m1 again later.
        self.answer("x", mark="m1")
        self.assertEqual([keeper.compared(2, 0), keeper.compared(3, 0)], [("same",), ("same", "newer")])

    def test_flowing(self):
        keeper = self.keeper
        for _ in range(3):
            self.answer("x", mark="m1")
        keeper.changed(keeper.ask("x", only="m2"))
        self.answer("x", mark="m1")
        self.assertEqual(keeper.groups(), ((0, 1, 2, 3, 4),))
        for ended, least in ((0, 1), (2, 1), (1, 4)):
            self.end(ended)
            for number in keeper.answers:
                check_refused(self, keeper, Flowing, least, lambda: keeper.fold(number))
        self.end(4)
        self.assertEqual(keeper.fold(3), 0)

    def test_a_group_of_one_answer(self):
        self.answer("x", (0, (1,)), mark="m1")
        check_refused(self, self.keeper, Flowing, 0, lambda: self.keeper.fold(0))
        self.end(0)
        text = show_keeper(self.keeper)
        self.assertEqual([self.keeper.fold(0), show_keeper(self.keeper), self.keeper.fold(0)], [0, text, 0])

    def test_a_group_without_a_head(self):
        keeper = self.keeper
        self.answer("x", mark="m1", until=20)
        keeper.wait(20)
        numbers = [keeper.ask("x", only="m1") for _ in range(2)]
        for number in numbers:
            keeper.changed(number)
        self.answer("x", mark="m2")
        keeper.changed(keeper.ask("y", only="m1"))
        # The two are not known to have one edition.
        self.assertEqual(keeper.groups(), ((0,), (1,), (2,), (3,), (4,)))
        self.assertEqual([keeper.fold(1), keeper.fold(2), keeper.fold(4)], [1, 2, 4])
        check_refused(self, keeper, NoHead, 1, lambda: keeper.part(1, 0, (1,)))
        check_refused(self, keeper, NoHead, 1, lambda: keeper.ended(1))
        self.assertIn("answer 1 changed\nat x 25 23\nnot m1", show_keeper(keeper))

    def test_several_changed_answers_in_one(self):
        keeper = Keeper((("x", None),))
        keeper.head(keeper.ask("x"), until=9)
        keeper.changed(keeper.ask("x", only="m2"))
        keeper.changed(keeper.ask("x", only="m1"))
        self.assertEqual(keeper.groups(), ((0, 1, 2),))
        keeper.ended(0)
        keeper.fold(2)
        self.assertTrue(show_keeper(keeper).endswith("answer 0 ended\nat x 2 9\nnot m1 m2"))
        self.assertEqual(read_keeper(show_keeper(keeper)), keeper)
        check_refused(self, keeper, Contradiction, (0, 3), lambda: keeper.tried(
            lambda trial: keeper.head(keeper.ask("x"), mark="m2")))

    def test_letting_go_is_for_all_of_its_answers(self):
        keeper = self.keeper
        for _ in range(2):
            self.answer("x", (0, (1, 2)), mark="m1")
        self.end(0, 1)
        keeper.let_go(0, Spans((0, 1)))
        self.assertEqual(keeper.known(0).pairs, ((0, 2),))
        keeper.fold(0)
        keeper.let_go(0, Spans((0, 1)))
        self.assertEqual([keeper.known(0).pairs, keeper.ground(0, 1)], [((1, 2),), (0,)])

    def test_no_answer(self):
        self.keeper.ask("x")
        self.answer("x")
        for value in strange_but(1) + [0, 2]:
            check_refused(self, self.keeper, NoAnswer, value, lambda: self.keeper.fold(value))
            check_refused(self, self.keeper, NoAnswer, value, lambda: self.keeper.sightings(value))


class Twins(unittest.TestCase):
    """A keeper that folds now and then tells the same as one that does not."""

    def event(self, draw, plain):
        """Draw what is done to both keepers; what one refuses the other must refuse."""
        kind = draw.random()
        word = draw.choice(("m1", "m2", None))
        if kind < 0.25:
            copy = draw.choice("xyz")
            only = word if draw.random() < 0.4 else None
            return lambda keeper: keeper.ask(copy, only=only)
        number = draw.choice((plain.open_asks if kind < 0.6 else plain.answers) or (0,))
        if kind < 0.6:
            told = {"mark": word, "weak": draw.choice((None, None, None, "w1", "w2")), "length": draw.choice((None, 3, 4))}
            if told["length"] and draw.random() < 0.6:
                told["names"] = (draw.choice("pq"), draw.choice("pq"))
            if draw.random() < 0.3:
                told["until"] = draw.randint(10, 60)
            changed = draw.random() < 0.3
            return lambda keeper: keeper.changed(number) if changed else keeper.head(number, **told)
        if kind < 0.8:
            start, values = draw.randrange(4), tuple(draw.randrange(2) for _ in range(draw.randint(1, 2)))
            return lambda keeper: keeper.part(number, start, values)
        return lambda keeper: keeper.ended(number)

    def done(self, keeper, event):
        try:
            return event(keeper)
        except Contradiction:
            return "Contradiction"
        except ValueError as error:
            return type(error).__name__

    def check(self, plain, folded, present, orders):
        for a in plain.answers:
            self.assertEqual([(start, values) for start, values in folded.stretches(present[a])], list(plain.stretches(a)))
            self.assertEqual(folded.length(present[a]), plain.length(a))
            for b in plain.answers:
                self.assertEqual(folded.compared(present[a], present[b]), plain.compared(a, b))
                self.assertEqual(folded.alike(present[a], present[b]), plain.alike(a, b))
            for copy in "xyz":
                self.assertEqual((folded.may_have(copy, present[a]), folded.has(copy, present[a])),
                                 (plain.may_have(copy, a), plain.has(copy, a)))
        for mine, theirs, my_stream, their_stream in orders:
            self.assertEqual([mine.had(), mine.offers(), mine.asking(), self.done(mine, lambda order: order.take())],
                             [theirs.had(), theirs.offers(), theirs.asking(), self.done(theirs, lambda order: order.take())])
            for deed in ("more", "taken", "is_done"):
                self.assertEqual(self.done(my_stream, lambda stream: getattr(stream, deed)()),
                                 self.done(their_stream, lambda stream: getattr(stream, deed)()))
        self.assertEqual([folded.possible(copy) for copy in "xyz"], [plain.possible(copy) for copy in "xyz"])

    def test_drawn_histories(self):
        folds = gone = 0
        for seed in range(60):
            draw = random.Random(seed)
            plain, folded = Keeper(XYZ, piece=2), Keeper(XYZ, piece=2)
            present, orders = {}, []
            for _ in range(90):
                event = self.event(draw, plain)
                refused = self.done(plain, event)
                told = self.done(folded, event)
                if told != refused:
                    # A part of an answer that is gone is refused in another way.
                    self.assertEqual({told, refused}, {"NoHead", "Ended"})
                present.update({number: number for number in plain.answers if number not in present})
                if draw.random() < 0.3 and folded.answers:
                    number = draw.choice(folded.answers)
                    group = next(group for group in folded.groups() if number in group)
                    if self.done(folded, lambda keeper: keeper.fold(number)) == group[0]:
                        folds, gone = folds + 1, gone + len(group) - 1
                        present = {one: group[0] if now in group else now for one, now in present.items()}
                if draw.random() < 0.05:
                    copy, spans = draw.choice("xyz"), Spans((0, draw.randint(1, 3)))
                    pair = [folded.order(copy, spans), plain.order(copy, spans)]
                    orders.append(pair + [order.stream() for order in pair])
            self.assertEqual(folded.now, plain.now)
            self.check(plain, folded, present, orders)
        self.assertGreater(folds, 150)
        self.assertGreater(gone, 60)


if __name__ == "__main__":
    unittest.main()
