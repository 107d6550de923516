"""Values that the tests hand in."""

HUGE = 10 ** 5000


def nested(depth):
    """Return a value that is nested so deep."""
    value = 3
    for level in range(depth):
        value = ([value], (value,), {"a": value})[level % 3]
    return value


def any_values():
    """Return values of each kind that "any value" means."""
    return [
        None, True, False, 0, 1, 3, -1, 999999, 1000000, HUGE, -HUGE, 2 ** 63, -2 ** 63 - 1,
        "", "a", "3", "ab", "(0, 4)",
        (), (0,), (0, 4), ("0", "4"), (True, 4), (None, None), (0, 4, 5), ((0, 4),), ((0, 4), (5, 6)),
        [], [0], [0, 4], [(0, 4)], [[]],
        {}, {0: 4}, {"start": 0, "stop": 4}, {(0, 4): [1]},
        ([0], {1: (2,)}), nested(20),
    ]
