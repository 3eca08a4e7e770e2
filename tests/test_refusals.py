import unittest

from herdline.errors import BadHerd, BadWay
from herdline.herds import corners, farthest, land, spots
from wrong import NO_HERDS, NO_PAIRS

DOORS = {
    "corners": corners,
    "land": land,
    "spots": spots,
    "farthest": lambda herd: farthest(herd, (1, 2)),
}

GOOD_HERDS = [
    [(0, 0)],
    [(-1000, 1000)],
    [(1000, -1000)],
    [(1000, 1000)] * 8,
    [(-1000, -1000), (1000, -1000), (1000, 1000), (-1000, 1000), (0, 1000), (1000, 0), (-1000, 0), (0, -1000)],
]


class Refusals(unittest.TestCase):
    def refused(self, refusal, door, *given):
        """The door refuses what is given, with just this refusal."""
        try:
            door(*given)
        except Exception as error:
            self.assertIs(type(error), refusal)
        else:
            self.fail("not refused")

    def test_no_herd_at_each_door(self):
        for name, door in DOORS.items():
            for number, wrong in enumerate(NO_HERDS):
                with self.subTest(door=name, number=number):
                    self.refused(BadHerd, door, wrong)

    def test_no_way(self):
        for number, wrong in enumerate(NO_PAIRS):
            with self.subTest(number=number):
                self.refused(BadWay, farthest, [(0, 0), (1, 1)], wrong)

    def test_both_wrong(self):
        for number, herd in enumerate(NO_HERDS):
            with self.subTest(number=number):
                self.refused(BadHerd, farthest, herd, NO_PAIRS[number % len(NO_PAIRS)])
        for number, way in enumerate(NO_PAIRS):
            with self.subTest(number=number):
                self.refused(BadHerd, farthest, [], way)

    def test_good_herds_are_not_refused(self):
        for door in DOORS.values():
            for herd in GOOD_HERDS:
                door(herd)
            for size in range(1, 9):
                door([(size, place) for place in range(size)])

    def test_good_ways_are_not_refused(self):
        for a in (-1000, -1, 0, 1, 1000):
            for b in (-1000, -1, 0, 1, 1000):
                self.assertEqual(farthest([(3, 4)], (a, b)), [0])


if __name__ == "__main__":
    unittest.main()
