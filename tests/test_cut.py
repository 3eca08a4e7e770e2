import itertools
import unittest

from herdline.answers import Meeting
from herdline.telling import cut
from reference import drawn_herds, is_meeting, point_of


class Cut(unittest.TestCase):
    def told(self, herd):
        """What is told is a Meeting of this herd with itself, with no place in both mixtures."""
        answer = cut(herd)
        self.assertIs(type(answer), Meeting)
        self.assertTrue(is_meeting(answer.first, answer.second, herd, herd), herd)
        places = [place for place, weight in answer.first + answer.second]
        self.assertEqual(len(places), len(set(places)), herd)
        self.assertIs(answer.shows(herd, herd), True)
        return answer

    def test_square(self):
        for herd in itertools.permutations([(0, 0), (4, 0), (4, 4), (0, 4)]):
            answer = self.told(list(herd))
            self.assertEqual(point_of(answer.first, herd), (2, 2))

    def test_inside_a_triangle(self):
        for herd in itertools.permutations([(0, 0), (9, 0), (0, 9), (2, 3)]):
            answer = self.told(list(herd))
            self.assertEqual(point_of(answer.first, herd), (2, 3))

    def test_on_an_edge_of_a_triangle(self):
        for herd in itertools.permutations([(0, 0), (9, 0), (0, 9), (0, 3)]):
            answer = self.told(list(herd))
            self.assertEqual(point_of(answer.first, herd), (0, 3))

    def test_the_same_spot_several_times(self):
        for size in range(4, 9):
            self.told([(-7, 1000)] * size)
        for herd in itertools.product([(0, 0), (1, 2), (5, 5)], repeat=4):
            self.told(list(herd))

    def test_on_one_line(self):
        for herd in itertools.permutations([(-3, -1), (0, 0), (3, 1), (9, 3), (-1000, 5)], 4):
            self.told(list(herd))
        for size in range(4, 9):
            self.told([(5, place) for place in range(size)])
            self.told([(place * 100, -place * 50) for place in range(size)])

    def test_every_four_in_a_square_of_three_by_three(self):
        for herd in itertools.product(itertools.product(range(3), repeat=2), repeat=4):
            self.told(list(herd))

    def test_drawn_herds(self):
        for bound in (2, 9, 1000):
            for herd in drawn_herds(240, bound):
                if len(herd) > 3:
                    self.told(herd)

    def test_at_the_bounds(self):
        self.told([(-1000, -1000), (1000, 1000), (-1000, 1000), (1000, -1000)])
        self.told([(-1000, -1000), (1000, 1000), (-1000, 1000), (1000, 999), (0, 0), (1, 1), (2, 2), (3, 3)])
        self.told([(-1000, -999), (1000, 1000), (999, 1000), (-999, -1000)])


if __name__ == "__main__":
    unittest.main()
