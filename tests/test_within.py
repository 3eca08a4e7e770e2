import itertools
import unittest

from herdline.answers import Answer, Apart, Mixed
from herdline.telling import within
from reference import drawn_herds, holds, is_apart, is_mixed, small_herds

SQUARE = [(0, 0), (4, 0), (4, 4), (0, 4)]
FAR = [(-1000, -1000), (1000, -1000), (1000, 1000), (-1000, 1000)]


class Within(unittest.TestCase):
    def told(self, herd, spot, held):
        """What is told is of the right class, as point 3 tells it, and shows it."""
        answer = within(herd, spot)
        self.assertIsInstance(answer, Answer)
        self.assertIs(type(answer), Mixed if held else Apart, (herd, spot))
        if held:
            self.assertTrue(is_mixed(answer.parts, herd, spot), (herd, spot, answer.parts))
        else:
            self.assertTrue(is_apart(answer.fence, herd, spot), (herd, spot, answer.fence))
        self.assertIs(answer.shows(herd, spot), True)
        return answer

    def test_one_of_the_herd(self):
        for place, spot in enumerate(SQUARE):
            self.assertEqual(self.told(SQUARE, spot, True).parts, [(place, (1, 1))])

    def test_midway_of_two(self):
        self.assertEqual(self.told([(0, 0), (4, 2)], (2, 1), True).parts, [(0, (1, 2)), (1, (1, 2))])
        self.assertEqual(self.told([(1000, 1000), (-1000, -1000)], (0, 0), True).parts, [(0, (1, 2)), (1, (1, 2))])

    def test_on_an_edge(self):
        answer = self.told([(0, 0), (9, 0), (0, 9)], (3, 6), True)
        self.assertEqual(answer.parts, [(1, (1, 3)), (2, (2, 3))])

    def test_inside(self):
        answer = self.told([(0, 0), (8, 0), (0, 8)], (2, 2), True)
        self.assertEqual(answer.parts, [(0, (1, 2)), (1, (1, 4)), (2, (1, 4))])
        answer = self.told([(0, 8), (8, 0), (0, 0)], (2, 2), True)
        self.assertEqual(answer.parts, [(0, (1, 4)), (1, (1, 4)), (2, (1, 2))])

    def test_outside(self):
        for spot in [(5, 2), (-1, 2), (2, 5), (2, -1), (5, 5), (-1, -1), (1000, 1000), (-1000, 0)]:
            self.told(SQUARE, spot, False)

    def test_one_spot(self):
        for herd in ([(3, -3)], [(3, -3)] * 5, [(3, -3)] * 8):
            self.told(herd, (3, -3), True)
            for spot in [(3, -2), (3, -4), (2, -3), (4, -3), (-3, 3), (1000, 1000), (-1000, -1000)]:
                self.told(herd, spot, False)

    def test_on_one_line(self):
        herd = [(2, 1), (6, 3), (-2, -1), (6, 3), (4, 2)]
        for spot in [(-2, -1), (0, 0), (2, 1), (4, 2), (6, 3)]:
            self.told(herd, spot, True)
        for spot in [(-4, -2), (8, 4), (1, 0), (1, 1), (0, 1), (0, -1), (1000, 500), (-1000, -500), (-500, 1000)]:
            self.told(herd, spot, False)

    def test_close_to_a_long_line(self):
        line = [(-1000, -999), (1000, 1000)]
        sliver = line + [(1000, 999)]
        for spot in [(0, 0), (1, 1), (999, 999)]:
            self.told(line, spot, False)
            self.told(sliver, spot, True)
        for spot in [(1, 0), (1, 2), (-1000, -1000), (-1000, -998), (-999, -999)]:
            self.told(line, spot, False)
            self.told(sliver, spot, False)

    def test_at_the_bounds(self):
        for spot in FAR + [(0, 0), (1000, 0), (0, -1000), (999, 999), (-1, 1)]:
            self.told(FAR, spot, True)
            self.told(FAR * 2, spot, True)
            self.told([(0, 0)], spot, spot == (0, 0))
        self.told([(-1000, 999), (1000, 1000)], (999, 1000), False)

    def test_small_herds(self):
        for herd in small_herds():
            for spot in itertools.product(range(-1, 4), repeat=2):
                self.told(herd, spot, holds(herd, spot))

    def test_drawn_herds(self):
        for bound in (2, 7, 1000):
            spots = [herd[0] for herd in drawn_herds(160, bound + 1) if max(map(abs, herd[0])) <= 1000]
            for herd, spot in zip(drawn_herds(160, bound), spots):
                self.told(herd, spot, holds(herd, spot))
                self.told(herd, herd[-1], True)


if __name__ == "__main__":
    unittest.main()
