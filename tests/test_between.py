import itertools
import unittest

from herdline.answers import Answer, Meeting, Parted
from herdline.telling import between
from reference import drawn_herds, holds, is_meeting, is_parted, point_of, small_herds

SQUARE = [(0, 0), (4, 0), (4, 4), (0, 4)]


def meet(one, other):
    """Whether two herds share a point: their differences hold (0, 0) then."""
    apart = [(x - u, y - v) for x, y in one for u, v in other]
    return holds(list(set(apart)), (0, 0))


class Between(unittest.TestCase):
    def one_turn(self, one, other, met):
        answer = between(one, other)
        self.assertIsInstance(answer, Answer)
        self.assertIs(type(answer), Meeting if met else Parted, (one, other))
        if met:
            self.assertTrue(is_meeting(answer.first, answer.second, one, other), (one, other))
        else:
            self.assertTrue(is_parted(answer.fence, one, other), (one, other, answer.fence))
        self.assertIs(answer.shows(one, other), True)
        return answer

    def told(self, one, other, met):
        """What is told is of the right class, as point 7 tells it, and shows it, in both turns."""
        self.one_turn(other, one, met)
        return self.one_turn(one, other, met)

    def test_apart(self):
        self.told(SQUARE, [(6, 0), (9, 9), (6, 4)], False)
        self.told(SQUARE, [(5, 0), (5, 4)], False)
        self.told(SQUARE, [(0, 5), (4, 5), (2, 1000)], False)
        self.told(SQUARE, [(5, 4), (4, 5)], False)
        self.told(SQUARE, [(-2, 2), (2, -3)], False)
        self.told(SQUARE, [(-1, 1), (1, -2)], False)

    def test_touch_in_one_spot(self):
        answer = self.told(SQUARE, [(4, 4), (9, 9)], True)
        self.assertEqual(point_of(answer.first, SQUARE), (4, 4))
        answer = self.told(SQUARE, [(4, 2), (9, 1), (9, 3)], True)
        self.assertEqual(point_of(answer.first, SQUARE), (4, 2))
        answer = self.told(SQUARE, [(3, 5), (5, 3)], True)
        self.assertEqual(point_of(answer.first, SQUARE), (4, 4))

    def test_touch_along_an_edge(self):
        for other in ([(4, 0), (8, 0), (8, 4), (4, 4)], [(4, 1), (4, 3), (6, 2)], [(4, -5), (4, 9)]):
            answer = self.told(SQUARE, other, True)
            self.assertEqual(point_of(answer.first, SQUARE)[0], 4)

    def test_cross_without_a_spot_in_common(self):
        answer = self.told([(0, 0), (2, 2)], [(0, 2), (2, 0)], True)
        self.assertEqual(point_of(answer.first, [(0, 0), (2, 2)]), (1, 1))
        self.assertEqual(answer.first, [(0, (1, 2)), (1, (1, 2))])
        self.assertEqual(answer.second, [(0, (1, 2)), (1, (1, 2))])
        self.told([(0, 0), (9, 0), (0, 0)], [(5, 1), (5, -2), (5, 1)], True)
        self.told([(0, 0), (6, 0), (3, 6)], [(0, 4), (6, 4), (3, -2)], True)
        self.told([(-1000, -1000), (1000, 999)], [(-1000, 1000), (1000, -999)], True)

    def test_one_inside_the_other(self):
        self.told(SQUARE, [(1, 1), (2, 1), (1, 2)], True)
        self.told(SQUARE, [(2, 2)], True)
        self.told([(-1000, -1000), (1000, -1000), (0, 1000)], SQUARE, True)

    def test_the_same_herd(self):
        for herd in (SQUARE, [(7, 7)], [(7, 7)] * 8, [(0, 0), (3, 3)]):
            self.told(herd, list(herd), True)
            self.told(herd, herd, True)

    def test_herds_of_one_spot(self):
        self.told([(1, 2)], [(1, 2)], True)
        self.told([(1, 2)] * 3, [(1, 2)] * 8, True)
        for spot in [(1, 3), (0, 2), (2, 1), (1000, 1000), (-1000, 999)]:
            self.told([(1, 2)], [spot], False)
            self.told([(1, 2)] * 8, [spot] * 2, False)

    def test_herds_on_one_line(self):
        line = [(2, 1), (6, 3), (4, 2)]
        self.told(line, [(6, 3), (8, 4)], True)
        self.told(line, [(0, 0), (8, 4)], True)
        self.told(line, [(0, 0), (4, 2)], True)
        self.told(line, [(8, 4), (10, 5)], False)
        self.told(line, [(0, 0), (-2, -1)], False)
        self.told(line, [(3, 1), (5, 2)], False)
        self.told(line, [(3, 2), (7, 4)], False)
        self.told(line, [(4, 0), (4, 1)], False)

    def test_narrow_between(self):
        self.told([(-1000, -1000), (1000, 999)], [(-999, -999), (1000, 1000)], False)
        self.told([(-1000, 0), (1000, 0)], [(-1000, 1), (1000, 1)], False)
        self.told([(0, 0), (1000, 999)], [(1, 1), (999, 998)], True)

    def test_small_herds(self):
        herds = list(small_herds())
        for number, one in enumerate(herds):
            for other in herds[number % 53::53]:
                moved = [(x + number % 3, y + number % 2) for x, y in other]
                self.told(one, moved, meet(one, moved))

    def test_all_lines_in_a_square(self):
        herds = [list(pair) for pair in itertools.product(itertools.product(range(3), repeat=2), repeat=2)]
        for one, other in itertools.product(herds, repeat=2):
            self.one_turn(one, other, meet(one, other))

    def test_drawn_herds(self):
        for bound in (2, 9, 1000):
            herds = list(drawn_herds(200, bound))
            for one, other in zip(herds, herds[5:] + herds[:5]):
                answer = between(one, other)
                self.told(one, other, isinstance(answer, Meeting))
                moved = [(x + bound if x + bound <= 1000 else 1000, y) for x, y in other]
                self.told(one, moved, isinstance(between(one, moved), Meeting))


if __name__ == "__main__":
    unittest.main()
