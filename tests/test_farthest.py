import random
import unittest

from herdline.herds import farthest
from reference import drawn_herds


class Farthest(unittest.TestCase):
    def test_one_place(self):
        self.assertEqual(farthest([(0, 0), (3, 1), (1, 3)], (1, 0)), [1])
        self.assertEqual(farthest([(0, 0), (3, 1), (1, 3)], (0, 1)), [2])
        self.assertEqual(farthest([(9, 9)], (-5, 2)), [0])

    def test_several_places_rising(self):
        self.assertEqual(farthest([(3, 1), (0, 0), (1, 3), (2, 2)], (1, 1)), [0, 2, 3])
        self.assertEqual(farthest([(5, 5)] * 8, (2, 3)), [0, 1, 2, 3, 4, 5, 6, 7])
        self.assertEqual(farthest([(1, 0), (0, 0), (1, 0)], (1, 0)), [0, 2])

    def test_the_way_of_nought_and_nought(self):
        self.assertEqual(farthest([(3, 1), (0, 0), (-4, 3)], (0, 0)), [0, 1, 2])
        self.assertEqual(farthest([(3, 1)], (0, 0)), [0])

    def test_ways_below_nought(self):
        self.assertEqual(farthest([(0, 0), (3, 1), (1, 3)], (-1, -1)), [0])
        self.assertEqual(farthest([(0, 0), (3, 1), (1, 3)], (1, -2)), [1])
        self.assertEqual(farthest([(5, 5), (3, 9), (3, 1)], (-1, 0)), [1, 2])

    def test_greatest_below_nought(self):
        self.assertEqual(farthest([(-5, -5), (-3, -9), (-2, -2)], (1, 1)), [2])

    def test_at_the_bounds(self):
        herd = [(-1000, -1000), (1000, -1000), (1000, 1000), (-1000, 1000), (1000, 999)]
        self.assertEqual(farthest(herd, (1000, 1000)), [2])
        self.assertEqual(farthest(herd, (-1000, -1000)), [0])
        self.assertEqual(farthest(herd, (1000, 0)), [1, 2, 4])
        self.assertEqual(farthest(herd, (-1000, 1000)), [3])

    def test_drawn_herds(self):
        draw = random.Random("ways")
        for bound in (1, 3, 1000):
            for herd in drawn_herds(240, bound):
                way = (draw.randint(-bound, bound), draw.randint(-bound, bound))
                told = farthest(herd, way)
                self.assertIs(type(told), list)
                self.assertEqual(told, sorted(set(told)))
                for place, spot in enumerate(herd):
                    ahead = [way[0] * (x - spot[0]) + way[1] * (y - spot[1]) > 0 for x, y in herd]
                    self.assertEqual(place in told, not any(ahead))


if __name__ == "__main__":
    unittest.main()
