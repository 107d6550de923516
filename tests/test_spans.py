"""Point 4: spans, and what point 2 says of them."""

import itertools
import unittest

from oneedition import spans as module
from oneedition.errors import BadSpans
from oneedition.spans import Spans
from tests.helper import HUGE, any_values, nested

SMALL = [(start, stop) for start in range(6) for stop in range(start + 1, 7)]
# Where the sets of positions lie: at the start, in the middle, at the end of all positions.
SHIFTS = (0, 500, 999994)
ALL = ((0, 1000000),)

WRONG = [
    (3, 3), (0, 0), (4, 3), (1000000, 0), (-1, 2), (-5, -2), (0, -1), (-1, 0), (0, 1000001), (999999, 1000001),
    (1000000, 1000000), (1000000, 1000001), (5, HUGE), (HUGE, HUGE + 1), (-HUGE, 5), (-HUGE, HUGE),
    (2 ** 63, 2 ** 63 + 1), (-2 ** 64, 3), (3, 2 ** 64),
    [0, 4], [], [(0, 4)], "", "ab", "04", "0..4", None, 0, 4, True, False, HUGE, {}, {0: 4}, {0: 1, 4: 5},
    (), (0,), (4,), (0, 4, 5), (0, 4, None), ((0, 4),), ((0, 4), (5, 6)), ((0,), (4,)),
    (True, 4), (False, 4), (0, True), (False, True), (0, False), (None, None), (0, None), (None, 4),
    ("0", "4"), (0, "4"), ("a", "b"), (0, [4]), ([0], 4), (0, (4,)), (0, {}), nested(20), (0, nested(19)),
]


def positions(pairs):
    """Return the set of the positions of pairs."""
    return {position for start, stop in pairs for position in range(start, stop)}


def rows(members):
    """Return the ascending tuple of pairs for a set of positions, without the program."""
    starts = sorted(position for position in members if position - 1 not in members)
    stops = sorted(position + 1 for position in members if position + 1 not in members)
    return tuple(zip(starts, stops))


def subsets(shift):
    """Return the set of positions and the Spans for each subset of six positions."""
    found = []
    for bits in itertools.product((False, True), repeat=6):
        members = {shift + at for at, bit in enumerate(bits) if bit}
        found.append((members, Spans(*[(position, position + 1) for position in members])))
    return found


class Interface(unittest.TestCase):

    def test_the_class_and_its_methods_are_defined_in_the_file(self):
        self.assertEqual(Spans.__module__, "oneedition.spans")
        self.assertIs(module.Spans, Spans)
        for word in ("__init__", "__and__", "__or__", "__sub__", "__contains__", "__len__", "__eq__"):
            self.assertIn(word, vars(Spans))

    def test_pairs_is_set_when_the_object_is_created(self):
        self.assertEqual(vars(Spans((0, 4)))["pairs"], ((0, 4),))


class Examples(unittest.TestCase):

    def test_first(self):
        one, other = Spans((6, 8), (0, 4), (4, 5)), Spans((3, 7))
        told = [one.pairs, (one & other).pairs, (one | other).pairs, (one - other).pairs, len(one), 5 in one]
        self.assertEqual(told, [((0, 5), (6, 8)), ((3, 5), (6, 7)), ((0, 8),), ((0, 3), (7, 8)), 7, False])
        self.assertEqual(Spans().pairs, ())

    def test_second(self):
        with self.assertRaises(BadSpans) as context:
            Spans((3, 3))
        self.assertEqual(context.exception.value, ((3, 3),))


class Pairs(unittest.TestCase):

    def check(self, given, pairs):
        self.assertEqual(Spans(*given).pairs, pairs)

    def test_none_and_one(self):
        self.check((), ())
        for pair in ((0, 1), (0, 1000000), (999999, 1000000), (0, 999999), (1, 1000000), (5, 9)):
            self.check((pair,), (pair,))

    def test_overlapping_touching_and_apart(self):
        self.check(((0, 4), (2, 6)), ((0, 6),))
        self.check(((0, 9), (2, 6)), ((0, 9),))
        self.check(((0, 9), (0, 3), (6, 9)), ((0, 9),))
        self.check(((0, 4), (4, 6)), ((0, 6),))
        self.check(((0, 4), (5, 6)), ((0, 4), (5, 6)))
        self.check(((0, 4), (0, 4)), ((0, 4),))
        self.check(((999998, 999999), (999999, 1000000)), ((999998, 1000000),))
        self.check(((0, 1), (999999, 1000000)), ((0, 1), (999999, 1000000)))

    def test_any_sequence(self):
        for given in itertools.permutations(((7, 9), (0, 2), (2, 3), (1, 3), (20, 21))):
            self.check(given, ((0, 3), (7, 9), (20, 21)))

    def test_all_short_rows_of_pairs(self):
        for many in range(4):
            for given in itertools.product(SMALL, repeat=many):
                self.check(given, rows(positions(given)))

    def test_many_pairs(self):
        given = [(start, start + 1) for start in range(0, 20000, 2)]
        self.check(reversed(given), tuple(given))
        self.check(given + [(start + 1, start + 2) for start, _ in given], ((0, 20000),))

    def test_tuples_of_integers_are_returned(self):
        pairs = Spans((5, 6), (0, 4)).pairs
        self.assertIs(type(pairs), tuple)
        for pair in pairs:
            self.assertIs(type(pair), tuple)
            self.assertEqual([type(number) for number in pair], [int, int])


class Wrong(unittest.TestCase):

    def check(self, given):
        with self.assertRaises(BadSpans) as context:
            Spans(*given)
        value = context.exception.value
        self.assertIs(type(value), tuple)
        self.assertEqual(len(value), len(given))
        for kept, pair in zip(value, given):
            self.assertIs(kept, pair)

    def test_one_wrong_pair(self):
        for pair in WRONG:
            self.check((pair,))

    def test_one_wrong_pair_among_others(self):
        for pair in WRONG:
            self.check((pair, (0, 4), (2, 9)))
            self.check(((6, 9), pair, (0, 4)))
            self.check(((6, 9), (0, 4), pair))

    def test_several_wrong_pairs(self):
        self.check(WRONG)
        for pair in WRONG:
            self.check((pair, (0, 4), pair))

    def test_any_value_is_a_pair_or_bad(self):
        for value in any_values():
            if value == (0, 4):
                self.assertEqual(Spans(value).pairs, ((0, 4),))
            else:
                self.check((value,))

    def test_a_tuple_of_pairs_is_no_pair(self):
        self.check((((0, 4), (5, 6)),))
        self.check((Spans((0, 4)).pairs,))

    def test_arguments_are_not_changed(self):
        wrong = [0, [4]]
        with self.assertRaises(BadSpans):
            Spans((0, 4), wrong)
        self.assertEqual(wrong, [0, [4]])

    def test_a_call_that_raises_changes_nothing(self):
        spans = Spans((0, 4))
        with self.assertRaises(BadSpans):
            spans.__init__((5, 6), (3, 3))
        self.assertEqual(spans.pairs, ((0, 4),))


class Operators(unittest.TestCase):

    def check(self, spans, members):
        self.assertIs(type(spans), Spans)
        self.assertEqual(spans.pairs, rows(members))
        self.assertEqual(len(spans), len(members))

    def test_against_the_sets_of_positions(self):
        for shift in SHIFTS:
            known = subsets(shift)
            for (one_set, one), (other_set, other) in itertools.product(known, repeat=2):
                self.check(one & other, one_set & other_set)
                self.check(one | other, one_set | other_set)
                self.check(one - other, one_set - other_set)
            for members, spans in known:
                self.check(spans, members)

    def test_the_spans_are_not_changed(self):
        one, other = Spans((0, 5), (6, 8)), Spans((3, 7))
        before = one
        done = [one & other, one | other, one - other]
        self.assertEqual([one.pairs, other.pairs], [((0, 5), (6, 8)), ((3, 7),)])
        one -= other
        self.assertEqual([one.pairs, before.pairs, len(done)], [((0, 3), (7, 8)), ((0, 5), (6, 8)), 3])

    def test_empty_and_everything(self):
        whole, none, part = Spans((0, 1000000)), Spans(), Spans((0, 1), (5, 9), (999999, 1000000))
        rest = Spans((1, 5), (9, 999999))
        for spans in (whole, none, part, rest):
            self.assertEqual((spans & whole).pairs, spans.pairs)
            self.assertEqual((whole & spans).pairs, spans.pairs)
            self.assertEqual((spans & none).pairs, ())
            self.assertEqual((none & spans).pairs, ())
            self.assertEqual((spans | none).pairs, spans.pairs)
            self.assertEqual((none | spans).pairs, spans.pairs)
            self.assertEqual((spans | whole).pairs, ALL)
            self.assertEqual((whole | spans).pairs, ALL)
            self.assertEqual((spans - whole).pairs, ())
            self.assertEqual((spans - spans).pairs, ())
            self.assertEqual((spans - none).pairs, spans.pairs)
            self.assertEqual((none - spans).pairs, ())
        self.assertEqual([(whole - part).pairs, (whole - rest).pairs], [rest.pairs, part.pairs])
        self.assertEqual([(part | rest).pairs, (part & rest).pairs], [ALL, ()])

    def test_touching_spans(self):
        one, other = Spans((0, 4)), Spans((4, 8))
        told = [(one & other).pairs, (one | other).pairs, (one - other).pairs, (other - one).pairs]
        self.assertEqual(told, [(), ((0, 8),), ((0, 4),), ((4, 8),)])

    def test_many_pairs(self):
        even = Spans(*[(start, start + 1) for start in range(0, 20000, 2)])
        odd = Spans(*[(start, start + 1) for start in range(1, 20000, 2)])
        self.assertEqual([(even | odd).pairs, (even & odd).pairs], [((0, 20000),), ()])
        self.assertEqual([(even - odd).pairs, (Spans((0, 20000)) - even).pairs], [even.pairs, odd.pairs])

    def test_equal_calls_return_equal_results(self):
        one, other = Spans((0, 5), (6, 8)), Spans((3, 7))
        self.assertEqual([one & other, one | other, one - other], [one & other, one | other, one - other])


class Membership(unittest.TestCase):

    def test_against_the_sets_of_positions(self):
        for shift in SHIFTS:
            for members, spans in subsets(shift):
                for position in range(shift - 2, shift + 9):
                    self.assertIs(position in spans, position in members)

    def test_the_ends_of_all_positions(self):
        for spans in (Spans((0, 1000000)), Spans((0, 1), (999999, 1000000))):
            told = [position in spans for position in (-1, 0, 999999, 1000000, 1000001)]
            self.assertEqual(told, [False, True, True, False, False])
        told = [position in Spans((1, 999999)) for position in (0, 1, 999998, 999999)]
        self.assertEqual(told, [False, True, True, False])

    def test_any_value(self):
        spans = Spans((0, 1000000))
        for value in any_values() + [Spans((0, 1)), ((0, 1000000),)]:
            inside = type(value) is int and 0 <= value <= 999999
            self.assertIs(value in spans, inside)
            self.assertIs(value in Spans(), False)

    def test_a_bool_is_no_position(self):
        self.assertEqual([True in Spans((0, 2)), False in Spans((0, 2)), 1 in Spans((0, 2))], [False, False, True])


class Lengths(unittest.TestCase):

    def test_ends(self):
        self.assertEqual([len(Spans()), len(Spans((0, 1000000))), len(Spans((999999, 1000000)))], [0, 1000000, 1])
        self.assertEqual([len(Spans((0, 4), (2, 6))), len(Spans((0, 4), (4, 6), (8, 9)))], [6, 7])

    def test_all_short_rows_of_pairs(self):
        for given in itertools.product(SMALL, repeat=2):
            self.assertEqual(len(Spans(*given)), len(positions(given)))


class Equality(unittest.TestCase):

    def check(self, one, other, equal):
        self.assertIs(one == other, equal)
        self.assertIs(other == one, equal)
        self.assertIs(one != other, not equal)
        self.assertIs(other != one, not equal)

    def test_against_the_sets_of_positions(self):
        known = subsets(0)
        for (one_set, one), (other_set, other) in itertools.product(known, known):
            self.check(one, other, one_set == other_set)

    def test_other_pairs_for_the_same_positions(self):
        self.check(Spans((0, 2), (2, 4)), Spans((1, 4), (0, 3)), True)
        self.check(Spans((0, 1000000)), Spans((500, 1000000), (0, 500)), True)
        self.check(Spans((0, 2), (3, 4)), Spans((0, 2), (2, 4)), False)
        self.check(Spans(), Spans((3, 4)) - Spans((0, 9)), True)

    def test_nothing_else_is_equal(self):
        for spans in (Spans(), Spans((0, 1)), Spans((0, 4))):
            for value in any_values() + [spans.pairs, list(spans.pairs), len(spans), {0, 1}, object()]:
                self.check(spans, value, False)


if __name__ == "__main__":
    unittest.main()
