import unittest

from herdline.errors import BadHerd, BadSpot, BadWay, TooFew
from herdline.herds import corners, farthest, land, spots
from herdline.telling import between, cut, within
from herdline.texts import written
from wrong import NO_HERDS, NO_PAIRS

DOORS = {
    "corners": corners,
    "land": land,
    "spots": spots,
    "farthest": lambda herd: farthest(herd, (1, 2)),
    "within": lambda herd: within(herd, (1, 2)),
    "between, the one": lambda herd: between(herd, [(1, 2)]),
    "between, the other": lambda herd: between([(1, 2)], herd),
    "between, both": lambda herd: between(herd, herd),
    "cut": cut,
    "written": written,
}

GOOD_HERDS = [
    [(0, 0)],
    [(-1000, 1000)],
    [(1000, -1000)],
    [(1000, 1000)] * 8,
    [(-1000, -1000), (1000, -1000), (1000, 1000), (-1000, 1000), (0, 1000), (1000, 0), (-1000, 0), (0, -1000)],
]


class Refusals(unittest.TestCase):
    def refused(self, refusal, door, *given):
        """The door refuses what is given, with just this refusal."""
        try:
            door(*given)
        except Exception as error:
            self.assertIs(type(error), refusal)
        else:
            self.fail("not refused")

    def test_no_herd_at_each_door(self):
        for name, door in DOORS.items():
            for number, wrong in enumerate(NO_HERDS):
                with self.subTest(door=name, number=number):
                    self.refused(BadHerd, door, wrong)

    def test_no_way(self):
        for number, wrong in enumerate(NO_PAIRS):
            with self.subTest(number=number):
                self.refused(BadWay, farthest, [(0, 0), (1, 1)], wrong)

    def test_no_spot(self):
        for number, wrong in enumerate(NO_PAIRS):
            with self.subTest(number=number):
                self.refused(BadSpot, within, [(0, 0), (1, 1)], wrong)

    def test_both_wrong(self):
        for door in (farthest, within):
            for number, herd in enumerate(NO_HERDS):
                with self.subTest(number=number):
                    self.refused(BadHerd, door, herd, NO_PAIRS[number % len(NO_PAIRS)])
            for number, pair in enumerate(NO_PAIRS):
                with self.subTest(number=number):
                    self.refused(BadHerd, door, [], pair)

    def test_two_no_herds(self):
        for number, herd in enumerate(NO_HERDS):
            with self.subTest(number=number):
                self.refused(BadHerd, between, herd, NO_HERDS[-number])

    def test_too_few_to_be_cut(self):
        for size in (1, 2, 3):
            for spot in [(0, 0), (1000, -1000)]:
                self.refused(TooFew, cut, [spot] * size)
                self.refused(TooFew, cut, [(place, place * place) for place in range(size)])

    def test_too_few_and_no_herd(self):
        for herd in ([], (), [(0, 0), (0, 1001)], [(0, 0), [0, 0]], [None] * 3, ((0, 0),), [(0, True)]):
            self.refused(BadHerd, cut, herd)

    def test_good_herds_are_not_refused(self):
        herds = GOOD_HERDS + [[(size, place) for place in range(size)] for size in range(1, 9)]
        for door in DOORS.values():
            for herd in herds:
                if door is not cut or len(herd) > 3:
                    door(herd)

    def test_good_ways_are_not_refused(self):
        for a in (-1000, -1, 0, 1, 1000):
            for b in (-1000, -1, 0, 1, 1000):
                self.assertEqual(farthest([(3, 4)], (a, b)), [0])

    def test_good_spots_are_not_refused(self):
        for x in (-1000, -1, 0, 1, 1000):
            for y in (-1000, -1, 0, 1, 1000):
                self.assertEqual(within([(x, y)], (x, y)).parts, [(0, (1, 1))])


if __name__ == "__main__":
    unittest.main()
