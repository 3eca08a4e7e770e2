import unittest

from herdline.herds import land, spots
from reference import corner_spots, drawn_herds, on_line, small_herds, whole_spots


def on_an_edge(herd, point):
    """Whether the point is on a line of two corners that has no corner to one side of it."""
    around = sorted(corner_spots(herd))
    for one in around:
        for other in around:
            turns = [
                (other[0] - one[0]) * (spot[1] - one[1]) - (other[1] - one[1]) * (spot[0] - one[0])
                for spot in around
            ]
            # One and the same corner twice is a line too, of that corner alone.
            if min(turns) >= 0 and on_line(one, other, point):
                return True
    return False


def counted(herd):
    """How many whole spots the herd holds, and how many of them are edge ones, taken one by one."""
    held = whole_spots(herd)
    return (len(held), len([point for point in held if on_an_edge(herd, point)]))


class Land(unittest.TestCase):
    def test_one_corner(self):
        self.assertEqual(land([(5, 8)]), 0)
        self.assertEqual(land([(-5, 8)] * 8), 0)

    def test_two_corners(self):
        self.assertEqual(land([(5, 8), (-3, 2)]), 0)
        self.assertEqual(land([(0, 0), (2, 2), (1, 1), (7, 7)]), 0)

    def test_three_corners(self):
        self.assertEqual(land([(0, 0), (1, 0), (0, 1)]), 1)
        self.assertEqual(land([(0, 1), (1, 0), (0, 0)]), 1)
        self.assertEqual(land([(0, 0), (0, 3), (4, 0)]), 12)
        self.assertEqual(land([(-2, -2), (3, -1), (0, 5)]), 33)

    def test_more_corners(self):
        self.assertEqual(land([(0, 0), (2, 2), (2, 0), (0, 2)]), 8)
        self.assertEqual(land([(0, 0), (4, 0), (4, 4), (0, 4), (2, 2), (2, 0)]), 32)
        self.assertEqual(land([(-3, -1), (-1, -3), (1, -3), (3, -1), (3, 1), (1, 3), (-1, 3), (-3, 1)]), 56)

    def test_at_the_bounds(self):
        self.assertEqual(land([(-1000, -1000), (1000, 1000), (-1000, 1000), (1000, -1000)]), 8000000)
        self.assertEqual(land([(-1000, -1000), (1000, 1000), (1000, 999)]), 2000)

    def test_a_number(self):
        for herd in ([(1, 1)], [(1, 1), (2, 2)], [(1, 1), (2, 2), (5, 9)]):
            self.assertIs(type(land(herd)), int)

    def test_drawn_herds(self):
        for bound in (1, 2, 4):
            for herd in drawn_herds(80, bound):
                held, edge = counted(herd)
                # Pick's theorem, from the counts to the area.
                asked = 2 * held - edge - 2 if len(corner_spots(herd)) > 2 else 0
                self.assertEqual(land(herd), asked, herd)


class Spots(unittest.TestCase):
    def test_one_corner(self):
        self.assertEqual(spots([(7, -7)]), (1, 1))
        self.assertEqual(spots([(0, 0)] * 8), (1, 1))

    def test_two_corners(self):
        self.assertEqual(spots([(0, 0), (1, 0)]), (2, 2))
        self.assertEqual(spots([(0, 0), (6, 4)]), (3, 3))
        self.assertEqual(spots([(6, -4), (0, 0), (3, -2)]), (3, 3))
        self.assertEqual(spots([(2, 5), (2, -5)]), (11, 11))
        self.assertEqual(spots([(0, 0), (5, 7)]), (2, 2))

    def test_three_corners(self):
        self.assertEqual(spots([(0, 0), (1, 0), (0, 1)]), (3, 3))
        self.assertEqual(spots([(0, 0), (2, 1), (1, 2)]), (4, 3))
        self.assertEqual(spots([(0, 0), (4, 0), (0, 4)]), (15, 12))

    def test_more_corners(self):
        self.assertEqual(spots([(0, 0), (2, 2), (2, 0), (0, 2)]), (9, 8))
        self.assertEqual(spots([(0, 0), (4, 0), (4, 4), (0, 4), (2, 2), (2, 0)]), (25, 16))
        self.assertEqual(spots([(0, 1), (1, 0), (2, 1), (1, 2)]), (5, 4))

    def test_at_the_bounds(self):
        square = [(-1000, -1000), (1000, -1000), (1000, 1000), (-1000, 1000)]
        self.assertEqual(spots(square), (2001 * 2001, 8000))
        self.assertEqual(spots(square + [(0, 0), (1000, 0), (0, 1000), (7, 7)]), (2001 * 2001, 8000))
        self.assertEqual(spots([(-1000, -1000), (1000, 1000)]), (2001, 2001))
        self.assertEqual(spots([(-1000, 1000), (1000, 999)]), (2, 2))

    def test_large_herds_at_once(self):
        # Each whole spot taken by itself would be four million a herd.
        square = [(-1000, -1000), (1000, -1000), (1000, 1000), (-1000, 1000)]
        for turn in range(2000):
            self.assertEqual(spots(square), (2001 * 2001, 8000))

    def test_kinds(self):
        for herd in ([(1, 1)], [(1, 1), (2, 2)], [(1, 1), (2, 2), (5, 9)]):
            told = spots(herd)
            self.assertIs(type(told), tuple)
            self.assertEqual([type(number) for number in told], [int, int])

    def test_small_herds(self):
        for herd in small_herds():
            self.assertEqual(spots(herd), counted(herd), herd)

    def test_drawn_herds(self):
        for bound in (1, 2, 4):
            for herd in drawn_herds(80, bound):
                self.assertEqual(spots(herd), counted(herd), herd)


if __name__ == "__main__":
    unittest.main()
