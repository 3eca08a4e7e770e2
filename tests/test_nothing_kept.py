import copy
import unittest

from herdline.herds import corners, farthest, land, spots

HERDS = [
    [(3, 4)],
    [(3, 4), (3, 4)],
    [(5, 1), (-2, 0)],
    [(9, 0), (0, 0), (4, 4), (0, 9), (2, 2), (9, 9), (0, 0)],
]


class NothingKept(unittest.TestCase):
    def test_herd_and_way_stay_as_they_were(self):
        for herd in HERDS:
            given = copy.deepcopy(herd)
            way = (-2, 7)
            corners(given)
            land(given)
            spots(given)
            farthest(given, way)
            self.assertEqual(given, herd)
            self.assertEqual(way, (-2, 7))

    def test_corners_told_are_new(self):
        for herd in HERDS:
            given = list(herd)
            told = corners(given)
            before = list(told)
            self.assertIsNot(told, given)
            told.clear()
            self.assertEqual(given, herd)
            self.assertEqual(corners(given), before)

    def test_farthest_told_are_new(self):
        for herd in HERDS:
            given = list(herd)
            told = farthest(given, (0, 0))
            told.append("another")
            self.assertEqual(given, herd)
            self.assertEqual(farthest(given, (0, 0)), list(range(len(herd))))

    def test_herd_is_not_kept(self):
        given = [(0, 0), (4, 0), (0, 4)]
        told = corners(given)
        places = farthest(given, (1, 1))
        given[0] = (9, 9)
        given.pop()
        self.assertEqual(told, [(0, 0), (4, 0), (0, 4)])
        self.assertEqual(places, [1, 2])
        self.assertEqual(corners(given), [(4, 0), (9, 9)])
        self.assertEqual(land(given), 0)
        self.assertEqual(spots(given), (2, 2))
        self.assertEqual(farthest(given, (1, 1)), [0])


if __name__ == "__main__":
    unittest.main()
