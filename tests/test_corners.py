import itertools
import unittest

from herdline.herds import corners
from reference import corner_spots, drawn_herds, left_of, small_herds


class Corners(unittest.TestCase):
    def check(self, herd):
        """The corners of the herd are as the document tells, whatever they are."""
        told = corners(herd)
        self.assertIs(type(told), list)
        for spot in told:
            self.assertIs(type(spot), tuple)
            self.assertEqual([type(number) for number in spot], [int, int])
        self.assertEqual(len(told), len(set(told)), "a corner told twice")
        self.assertEqual(set(told), corner_spots(herd))
        self.assertEqual(told[0], min(told))
        for first, second, third in itertools.combinations(told, 3):
            self.assertTrue(left_of(first, second, third))

    def test_one_spot(self):
        self.assertEqual(corners([(4, -7)]), [(4, -7)])
        self.assertEqual(corners([(0, 0)]), [(0, 0)])

    def test_the_same_spot_several_times(self):
        self.assertEqual(corners([(3, 3)] * 2), [(3, 3)])
        self.assertEqual(corners([(-3, 5)] * 8), [(-3, 5)])
        self.assertEqual(corners([(1, 1), (0, 0), (1, 1), (0, 0)]), [(0, 0), (1, 1)])
        self.assertEqual(corners([(0, 0), (4, 0), (0, 4), (4, 0), (0, 4), (0, 0)]), [(0, 0), (4, 0), (0, 4)])

    def test_two_spots_the_least_first(self):
        self.assertEqual(corners([(2, 0), (1, 9)]), [(1, 9), (2, 0)])
        self.assertEqual(corners([(1, 9), (1, -9)]), [(1, -9), (1, 9)])

    def test_all_on_one_line(self):
        self.assertEqual(corners([(2, 2), (0, 0), (1, 1), (5, 5)]), [(0, 0), (5, 5)])
        self.assertEqual(corners([(0, 3), (0, -1), (0, 2)]), [(0, -1), (0, 3)])
        self.assertEqual(corners([(3, 7), (-1, 7), (2, 7), (2, 7)]), [(-1, 7), (3, 7)])
        self.assertEqual(corners([(0, 4), (2, 3), (4, 2), (6, 1), (8, 0)]), [(0, 4), (8, 0)])

    def test_three_spots_to_the_left(self):
        for herd in itertools.permutations([(0, 0), (4, 1), (1, 4)]):
            self.assertEqual(corners(list(herd)), [(0, 0), (4, 1), (1, 4)])

    def test_spots_on_an_edge_are_no_corners(self):
        herd = [(0, 0), (2, 0), (4, 0), (4, 2), (4, 4), (2, 4), (0, 4), (0, 2)]
        self.assertEqual(corners(herd), [(0, 0), (4, 0), (4, 4), (0, 4)])
        self.assertEqual(corners(list(reversed(herd))), [(0, 0), (4, 0), (4, 4), (0, 4)])

    def test_spots_inside_are_no_corners(self):
        herd = [(2, 2), (0, 0), (1, 3), (4, 0), (2, 1), (4, 4), (0, 4)]
        self.assertEqual(corners(herd), [(0, 0), (4, 0), (4, 4), (0, 4)])

    def test_eight_corners(self):
        ring = [(-3, -1), (-1, -3), (1, -3), (3, -1), (3, 1), (1, 3), (-1, 3), (-3, 1)]
        self.assertEqual(corners(sorted(ring, key=lambda spot: spot[1])), ring)

    def test_at_the_bounds(self):
        square = [(-1000, -1000), (1000, -1000), (1000, 1000), (-1000, 1000)]
        self.assertEqual(corners(list(reversed(square)) + [(0, 0), (1000, 999), (-999, -1000), (1, 1)]), square)
        self.assertEqual(corners([(1000, 1000), (-1000, -1000), (999, 999)]), [(-1000, -1000), (1000, 1000)])
        self.assertEqual(
            corners([(1000, 1000), (-1000, -1000), (999, 998)]), [(-1000, -1000), (999, 998), (1000, 1000)]
        )

    def test_small_herds(self):
        for herd in small_herds():
            self.check(herd)

    def test_drawn_herds(self):
        for bound in (1, 2, 4, 1000):
            for herd in drawn_herds(240, bound):
                self.check(herd)


if __name__ == "__main__":
    unittest.main()
