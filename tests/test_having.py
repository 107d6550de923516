"""Point 13: what copies have now."""

import unittest

from oneedition.errors import NoAnswer, NoCopy
from oneedition.keeper import Keeper
from tests.helper import COPIES, Log, check_refused, strange_but

XYZ = (("x", None), ("y", "x"), ("z", None))


class Having(unittest.TestCase):

    def told(self, keeper, copy, a):
        return keeper.may_have(copy, a), keeper.has(copy, a)

    def test_an_answer_that_came_just_now(self):
        keeper = Keeper(XYZ)
        keeper.head(keeper.ask("x"), mark="m1")
        # It was made before now, and the copy may have something newer since.
        self.assertEqual([self.told(keeper, copy, 0) for copy in "xyz"], [(True, False)] * 3)
        keeper.head(keeper.ask("x"), mark="m2")
        self.assertEqual([self.told(keeper, copy, 0) for copy in "xyz"], [(False, False), (True, False), (True, False)])
        self.assertEqual([keeper.possible(copy) for copy in "xyz"], [(1,), (0, 1), (0, 1)])

    def test_a_promise_until_just_now(self):
        keeper = Keeper(XYZ)
        keeper.head(keeper.ask("x"), until=5)
        told = []
        for _ in range(5):
            told.append((keeper.now, keeper.has("x", 0), keeper.may_have("x", 0), keeper.has("y", 0)))
            keeper.wait(1)
        self.assertEqual(told, [(now, now <= 5, True, False) for now in range(2, 7)])

    def test_a_copy_between_two_that_have_it(self):
        keeper = Keeper(XYZ)
        keeper.head(keeper.ask("y"), mark="m1")
        self.assertFalse(keeper.has("y", 0))
        keeper.head(keeper.ask("x"), mark="m1", until=8)
        self.assertEqual([keeper.has(copy, 0) for copy in "xyz"], [True, True, False])
        keeper.wait(5)
        self.assertEqual([keeper.has(copy, 0) for copy in "xyz"], [False, False, False])

    def test_nothing_is_possible_behind_what_nobody_has(self):
        log = Log(COPIES[0])
        log.head(self, log.ask("x"), mark="m1")
        log.changed(self, log.ask("x", only="m1"))
        self.assertEqual([log.keeper.possible("x"), log.keeper.may_have("x", 0)], [(1,), False])

    def test_without_answers(self):
        self.assertEqual(Keeper(XYZ).possible("y"), ())

    def test_looking_changes_nothing(self):
        keeper = Keeper(XYZ)
        keeper.head(keeper.ask("x"), until=9)
        before = keeper.groups(), keeper.answers, keeper.now
        for copy in "xyz":
            keeper.may_have(copy, 0), keeper.has(copy, 0), keeper.possible(copy)
        self.assertEqual((keeper.groups(), keeper.answers, keeper.now), before)

    def test_the_first_error_that_applies(self):
        keeper = Keeper(XYZ)
        keeper.ask("x")
        keeper.head(keeper.ask("x"))
        for copy in strange_but("x") + ["xy", "w", ("x",)]:
            for deed in (lambda: keeper.may_have(copy, 0), lambda: keeper.has(copy, 0), lambda: keeper.possible(copy)):
                check_refused(self, keeper, NoCopy, copy, deed)
        for number in strange_but(1) + [0, 2]:
            check_refused(self, keeper, NoAnswer, number, lambda: keeper.may_have("x", number))
            check_refused(self, keeper, NoAnswer, number, lambda: keeper.has("x", number))


if __name__ == "__main__":
    unittest.main()
