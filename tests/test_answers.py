import itertools
import unittest
from fractions import Fraction

from herdline import answers
from herdline.answers import Answer, Apart, Meeting, Mixed, Parted
from herdline.telling import between, within
from reference import drawn_herds, is_apart, is_meeting, is_mixed, is_parted

SQUARE = [(0, 0), (4, 0), (4, 4), (0, 4)]
TRIANGLE = [(0, 0), (8, 0), (0, 8)]
HALVES = [(0, (1, 2)), (2, (1, 2))]
HERDS = [SQUARE, SQUARE[::-1], TRIANGLE, [(2, 2)], [(2, 2)] * 4, [(0, 0), (4, 4)], [(4, 0), (0, 4), (9, 9)],
         [(-1000, 1000), (1000, -1000), (1000, 1000), (0, 0), (2, 2)], [(6, 0), (6, 5)]]
SPOTS = [(2, 2), (0, 0), (4, 4), (5, 5), (3, 1), (-1000, 1000)]


def fraction(value):
    value = Fraction(value)
    return (value.numerator, value.denominator)


def changed_parts(parts, herd):
    """The parts, and lists of parts that differ from them in one thing."""
    yield list(parts)
    yield []
    for row in itertools.permutations(parts):
        yield list(row)
    for number, (place, weight) in enumerate(parts):
        ahead, behind = parts[:number], parts[number + 1:]
        yield ahead + behind
        for other in (place - len(herd), -1, place - 1, place + 1, 0, len(herd) - 1, len(herd), 1000, 10 ** 30):
            yield ahead + [(other, weight)] + behind
        for other in ((weight[0] + 1, weight[1]), (weight[0] - 1, weight[1]), (weight[0], weight[1] + 1),
                      (-weight[0], weight[1]), (0, 1), (1, 1), (1, 2), (10 ** 30, 1)):
            yield ahead + [(place, fraction(Fraction(*other)))] + behind
        half = fraction(Fraction(*weight) / 2)
        yield ahead + [(place, half), (place, half)] + behind
        for twin in range(place + 1, len(herd)):
            yield sorted(ahead + [(place, half), (twin, half)] + behind)
    for place in range(-1, len(herd) + 1):
        for weight in ((0, 1), (1, 1), (1, 2), (-1, 2), (-1, 1)):
            yield sorted(parts + [(place, weight)])
            yield parts + [(place, weight)]


def changed_fences(fence):
    """The fence, and fences that differ from it."""
    a, b, c = fence
    yield fence
    for by in (-10 ** 30, -7, -2, -1, 1, 2, 7, 10 ** 30):
        yield (a + by, b, c)
        yield (a, b + by, c)
        yield (a, b, c + by)
        yield (a * by, b * by, c * by)
        yield (0, 0, by)
    yield from [(0, b, c), (a, 0, c), (a, b, 0), (b, a, c), (0, 0, c), (0, 0, -c), (0, 0, 0), (-a, -b, -c)]


class Shape(unittest.TestCase):
    def test_each_is_straight_under_answer(self):
        for name in ("Mixed", "Apart", "Parted", "Meeting"):
            self.assertEqual(getattr(answers, name).__bases__, (Answer,))

    def test_fields(self):
        self.assertEqual(Mixed(HALVES).parts, HALVES)
        self.assertEqual(Mixed(parts=HALVES).parts, HALVES)
        self.assertEqual(Apart((1, 2, 3)).fence, (1, 2, 3))
        self.assertEqual(Apart(fence=(1, 2, 3)).fence, (1, 2, 3))
        self.assertEqual(Parted(fence=(1, 2, 3)).fence, (1, 2, 3))
        meeting = Meeting(first=[(0, (1, 1))], second=HALVES)
        self.assertEqual((meeting.first, meeting.second), ([(0, (1, 1))], HALVES))

    def test_named_arguments_of_shows(self):
        self.assertIs(Mixed(HALVES).shows(herd=SQUARE, spot=(2, 2)), True)
        self.assertIs(Apart((1, 0, 4)).shows(herd=SQUARE, spot=(5, 2)), True)
        self.assertIs(Parted((1, 0, 5)).shows(one=SQUARE, other=[(6, 0)]), True)
        self.assertIs(Meeting(HALVES, [(0, (1, 1))]).shows(one=SQUARE, other=[(2, 2)]), True)


class MixedByHand(unittest.TestCase):
    def shown(self, parts, herd, spot):
        self.assertIs(Mixed(parts).shows(herd, spot), is_mixed(parts, herd, spot), (parts, herd, spot))

    def test_told(self):
        self.assertIs(Mixed(HALVES).shows(SQUARE, (2, 2)), True)
        self.assertIs(Mixed(HALVES).shows(SQUARE, (2, 3)), False)
        self.assertIs(Mixed(HALVES).shows(SQUARE, (3, 2)), False)
        self.assertIs(Mixed([(1, (1, 2)), (3, (1, 2))]).shows(SQUARE, (2, 2)), True)

    def test_a_point_that_is_no_spot(self):
        for spot in SPOTS + [(0, 2), (1, 1)]:
            self.assertIs(Mixed([(0, (1, 2)), (1, (1, 2))]).shows([(0, 0), (1, 2)], spot), False)

    def test_wrong_mixtures_that_come_out_at_the_spot(self):
        spot = (2, 2)
        herd = SQUARE + [(2, 2), (2, 2), (2, 2), (0, 0)]
        wrong = [
            [],
            [(2, (1, 2)), (0, (1, 2))],
            [(4, (1, 2)), (4, (1, 2))],
            [(0, (1, 4)), (1, (1, 4)), (2, (1, 4)), (3, (1, 4))],
            [(4, (1, 1)), (5, (0, 1))],
            [(4, (2, 1)), (5, (-1, 1))],
            [(2, (1, 2))],
            [(2, (1, 2)), (7, (1, 3))],
            [(2, (1, 2)), (7, (2, 3))],
            [(2, (1, 2)), (7, (1, 1))],
            [(-4, (1, 1))],
            [(-2, (1, 1))],
            [(8, (1, 1))],
            [(0, (2, 4)), (2, (1, 2))],
            [(0, (2, 4)), (2, (2, 4))],
            [(4, (2, 2))],
            [(4, (-1, -1))],
            [(4, (1, -2)), (5, (1, -2)), (6, (2, 1))],
            [(4, (1, 0))],
            [(4, (0, 0))],
            [(4, (1, 1)), (5, (0, 0))],
            [(4, (1, 1)), (5, (0, 2))],
        ]
        for parts in wrong:
            self.assertIs(Mixed(parts).shows(herd, spot), False, parts)
        self.assertIs(Mixed([(4, (1, 3)), (5, (1, 3)), (6, (1, 3))]).shows(herd, spot), True)

    def test_changed(self):
        for herd, spot in itertools.product(HERDS, SPOTS):
            told = within(herd, spot)
            if isinstance(told, Mixed):
                for parts in changed_parts(told.parts, herd):
                    self.shown(parts, herd, spot)
                    for another in HERDS:
                        self.shown(parts, another, spot)
                    self.shown(parts, herd, (spot[0], spot[1] + 1))

    def test_not_of_the_kind(self):
        for parts in (None, (), ((0, (1, 1)),), 0, "", {0: (1, 1)}, [None], [0], [()], [(0,)], [(0, 1)], [(0, None)],
                      [(0, (1,))], [(0, (1, 1, 1))], [[0, (1, 1)]], [(0, [1, 1])], [(False, (1, 1))],
                      [(0, (True, 1))], [(0, (1, True))], [(0, (1, 1), 0)], [("0", (1, 1))]):
            answer = Mixed([])
            answer.parts = parts
            self.assertIs(answer.shows([(5, 5)], (5, 5)), False)


class ApartByHand(unittest.TestCase):
    def shown(self, fence, herd, spot):
        self.assertIs(Apart(fence).shows(herd, spot), is_apart(fence, herd, spot), (fence, herd, spot))

    def test_beneath_on_and_beyond(self):
        self.assertIs(Apart((1, 0, 4)).shows(SQUARE, (5, 0)), True)
        self.assertIs(Apart((1, 0, 4)).shows(SQUARE, (4, 0)), False)
        self.assertIs(Apart((1, 0, 3)).shows(SQUARE, (5, 0)), False)
        self.assertIs(Apart((1, 0, 5)).shows(SQUARE, (5, 0)), False)
        self.assertIs(Apart((-1, 0, 0)).shows(SQUARE, (5, 0)), False)
        self.assertIs(Apart((-1, 0, 0)).shows(SQUARE, (-1, 0)), True)
        self.assertIs(Apart((1, 1, 8)).shows(SQUARE, (4, 5)), True)

    def test_neither_way(self):
        for c in (-1, 0, 1):
            self.assertIs(Apart((0, 0, c)).shows([(0, 0)], (5, 5)), False)

    def test_changed(self):
        for herd, spot in itertools.product(HERDS, SPOTS):
            told = within(herd, spot)
            if isinstance(told, Apart):
                for fence in changed_fences(told.fence):
                    for another in HERDS:
                        self.shown(fence, another, spot)
                    for farther in SPOTS:
                        self.shown(fence, herd, farther)

    def test_not_of_the_kind(self):
        for fence in (None, (), (1, 0), [1, 0, 4], (1, 0, 4, 0), (True, 0, 4), (1, False, 4), ("1", "0", "4"), 1):
            self.assertIs(Apart(fence).shows(SQUARE, (5, 0)), False)
            self.assertIs(Parted(fence).shows([(3, 0)], [(5, 0)]), False)


class PartedByHand(unittest.TestCase):
    def shown(self, fence, one, other):
        self.assertIs(Parted(fence).shows(one, other), is_parted(fence, one, other), (fence, one, other))

    def test_none_on_the_fence(self):
        far = [(6, 0), (6, 5)]
        self.assertIs(Parted((1, 0, 5)).shows(SQUARE, far), True)
        self.assertIs(Parted((1, 0, 4)).shows(SQUARE, far), False)
        self.assertIs(Parted((1, 0, 6)).shows(SQUARE, far), False)
        self.assertIs(Parted((1, 0, 5)).shows(far, SQUARE), False)
        self.assertIs(Parted((-1, 0, -5)).shows(far, SQUARE), True)
        self.assertIs(Parted((-1, 0, -5)).shows(SQUARE, far), False)

    def test_neither_way(self):
        for c in (-1, 0, 1):
            self.assertIs(Parted((0, 0, c)).shows([(0, 0)], [(5, 5)]), False)

    def test_changed(self):
        for one, other in itertools.product(HERDS, repeat=2):
            told = between(one, other)
            if isinstance(told, Parted):
                for fence in changed_fences(told.fence):
                    self.shown(fence, one, other)
                    self.shown(fence, other, one)
                    for another in HERDS:
                        self.shown(fence, one, another)
                        self.shown(fence, another, other)


class MeetingByHand(unittest.TestCase):
    def shown(self, first, second, one, other):
        says = is_meeting(first, second, one, other)
        self.assertIs(Meeting(first, second).shows(one, other), says, (first, second, one, other))

    def test_both_must_be_the_same_point(self):
        self.assertIs(Meeting(HALVES, [(0, (1, 1))]).shows(SQUARE, [(2, 2)]), True)
        self.assertIs(Meeting(HALVES, [(0, (1, 1))]).shows(SQUARE, [(2, 3)]), False)
        self.assertIs(Meeting(HALVES, [(0, (1, 1))]).shows(SQUARE, [(3, 2)]), False)
        self.assertIs(Meeting(HALVES, [(0, (1, 1))]).shows([(2, 2)], SQUARE), False)
        self.assertIs(Meeting([(0, (1, 1))], HALVES).shows([(2, 2)], SQUARE), True)

    def test_a_place_may_be_in_both(self):
        self.assertIs(Meeting(HALVES, HALVES).shows(SQUARE, SQUARE), True)

    def test_a_point_that_is_no_spot(self):
        halves = [(0, (1, 2)), (1, (1, 2))]
        self.assertIs(Meeting(halves, halves).shows([(0, 0), (1, 1)], [(0, 1), (1, 0)]), True)
        self.assertIs(Meeting(halves, halves).shows([(0, 0), (1, 1)], [(0, 1), (1, 1)]), False)

    def test_changed(self):
        for one, other in itertools.product(HERDS, repeat=2):
            told = between(one, other)
            if isinstance(told, Meeting):
                for first in changed_parts(told.first, one):
                    self.shown(first, told.second, one, other)
                    self.shown(first, told.second, other, one)
                for second in changed_parts(told.second, other):
                    self.shown(told.first, second, one, other)
                    for another in HERDS:
                        self.shown(told.first, second, one, another)

    def test_somewhat_beyond_the_bounds(self):
        herd = [(2000, place) for place in range(12)]
        self.assertIs(Mixed([(0, (1, 2)), (10, (1, 2))]).shows(herd, (2000, 5)), True)
        self.assertIs(Meeting([(11, (1, 1))], [(0, (1, 1))]).shows(herd, [(2000, 11)]), True)
        self.assertIs(Apart((1, 0, 2000)).shows(herd, (2001, 0)), True)
        self.assertIs(Parted((1, 0, 2001)).shows(herd, [(2002, 0)]), True)


class FieldsAsTheyStand(unittest.TestCase):
    def test_the_lists_handed_in_may_change(self):
        parts, other = list(HALVES), [(0, (1, 1))]
        mixed, meeting = Mixed(parts), Meeting(parts, other)
        parts.clear()
        other.append((1, (1, 1)))
        self.assertEqual(mixed.parts, HALVES)
        self.assertEqual(meeting.first, HALVES)
        self.assertEqual(meeting.second, [(0, (1, 1))])
        self.assertIs(mixed.shows(SQUARE, (2, 2)), True)
        self.assertIs(meeting.shows(SQUARE, [(2, 2)]), True)

    def test_one_list_for_both(self):
        meeting = Meeting(HALVES, HALVES)
        meeting.first.pop()
        self.assertEqual(meeting.second, [(0, (1, 2)), (2, (1, 2))])
        self.assertEqual(HALVES, [(0, (1, 2)), (2, (1, 2))])

    def test_fields_may_change(self):
        mixed = Mixed([(0, (1, 1))])
        self.assertIs(mixed.shows(SQUARE, (0, 0)), True)
        mixed.parts[0] = (1, (1, 1))
        self.assertIs(mixed.shows(SQUARE, (0, 0)), False)
        self.assertIs(mixed.shows(SQUARE, (4, 0)), True)
        mixed.parts = list(HALVES)
        self.assertIs(mixed.shows(SQUARE, (2, 2)), True)
        apart = Apart((1, 0, 4))
        apart.fence = (0, 1, 4)
        self.assertIs(apart.shows(SQUARE, (5, 0)), False)
        self.assertIs(apart.shows(SQUARE, (0, 5)), True)
        parted = Parted((1, 0, 5))
        parted.fence = (0, 1, 5)
        self.assertIs(parted.shows(SQUARE, [(6, 0)]), False)
        self.assertIs(parted.shows(SQUARE, [(0, 6)]), True)
        meeting = Meeting([(0, (1, 1))], [(0, (1, 1))])
        meeting.first = list(HALVES)
        self.assertIs(meeting.shows(SQUARE, [(0, 0)]), False)
        self.assertIs(meeting.shows(SQUARE, [(2, 2)]), True)
        meeting.second.append((1, (1, 1)))
        self.assertIs(meeting.shows(SQUARE, [(2, 2), (2, 2)]), False)

    def test_never_both(self):
        spots = [herd[0] for herd in drawn_herds(120, 5)]
        herds = list(drawn_herds(120, 4))
        for herd, spot in zip(herds, spots):
            told = within(herd, spot)
            for fence in itertools.product(range(-2, 3), range(-2, 3), range(-8, 9, 2)):
                self.assertFalse(isinstance(told, Mixed) and Apart(fence).shows(herd, spot))
            for place in range(len(herd)):
                self.assertFalse(isinstance(told, Apart) and Mixed([(place, (1, 1))]).shows(herd, spot))


if __name__ == "__main__":
    unittest.main()
