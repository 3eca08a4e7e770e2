"""Things of every kind that are no spot, no way or no herd."""


class Odd:
    """Stands in for any kind that the program doesn't know; it must not be asked anything."""

    def __len__(self):
        raise RuntimeError("asked for its length")

    def __eq__(self, other):
        raise RuntimeError("compared")

    def __bool__(self):
        raise RuntimeError("asked for its truth")

    def __iter__(self):
        raise RuntimeError("walked")

    def __repr__(self):
        raise RuntimeError("shown")


def nested():
    """A list that holds itself."""
    ring = []
    ring.append(ring)
    return ring


NO_NUMBERS = [True, False, None, "1", "", b"1", 1.0, 0.5, float("nan"), float("inf"), 1j, (), (1,), [], {},
              1001, -1001, 10 ** 400, -(10 ** 400), int, Odd()]

NO_PAIRS = (
    [None, True, False, 0, 1, 1.5, "", "1,2", "12", b"12", [], [1, 2], {}, {1: 2, 3: 4}, {1, 2}, frozenset((1, 2)),
     range(2), iter((1, 2)), tuple, len, Odd(), nested(), object(),
     (), (1,), (1, 2, 3), (1, 2, 3, 4), ((1, 2), (3, 4)), ((1, 2),), [(1, 2)]]
    + [(wrong, 0) for wrong in NO_NUMBERS]
    + [(0, wrong) for wrong in NO_NUMBERS]
    + [(1001, 1001), (True, False), ("1", "2")]
)

NO_HERDS = (
    [None, True, False, 0, 1, 1.5, "", "1,2", "1,2 3,4", b"", [], (), {}, set(), {(0, 0)}, {(0, 0): (1, 1)},
     (0, 0), ((0, 0),), ((0, 0), (1, 1)), iter([(0, 0)]), range(3), list, len, Odd(), nested(), object(),
     [(0, 0)] * 9, [(0, 0)] * 1000, [(place, place) for place in range(9)], [[]], [[(0, 0)]], [0, 0], [1, 2]]
    + [[wrong] for wrong in NO_PAIRS]
    + [[(0, 0), wrong] for wrong in NO_PAIRS]
    + [[wrong, (0, 0)] for wrong in NO_PAIRS]
    + [[(0, 0)] * 7 + [wrong] for wrong in NO_PAIRS]
)
