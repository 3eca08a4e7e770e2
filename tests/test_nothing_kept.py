import copy
import unittest

from herdline.herds import corners, farthest, land, spots
from herdline.telling import between, cut, within
from herdline.texts import written

HERDS = [
    [(3, 4)],
    [(3, 4), (3, 4)],
    [(5, 1), (-2, 0)],
    [(9, 0), (0, 0), (4, 4), (0, 9), (2, 2), (9, 9), (0, 0)],
]


class NothingKept(unittest.TestCase):
    def test_herd_and_way_stay_as_they_were(self):
        for herd in HERDS:
            given = copy.deepcopy(herd)
            way = (-2, 7)
            corners(given)
            land(given)
            spots(given)
            farthest(given, way)
            within(given, way)
            between(given, [(0, 0), (4, 4)]).shows(given, [(0, 0), (4, 4)])
            between([(0, 0), (4, 4)], given).shows([(0, 0), (4, 4)], given)
            written(given)
            if len(given) > 3:
                cut(given)
            self.assertEqual(given, herd)
            self.assertEqual(way, (-2, 7))

    def test_corners_told_are_new(self):
        for herd in HERDS:
            given = list(herd)
            told = corners(given)
            before = list(told)
            self.assertIsNot(told, given)
            told.clear()
            self.assertEqual(given, herd)
            self.assertEqual(corners(given), before)

    def test_farthest_told_are_new(self):
        for herd in HERDS:
            given = list(herd)
            told = farthest(given, (0, 0))
            told.append("another")
            self.assertEqual(given, herd)
            self.assertEqual(farthest(given, (0, 0)), list(range(len(herd))))

    def test_herd_is_not_kept(self):
        given = [(0, 0), (4, 0), (0, 4)]
        told = corners(given)
        places = farthest(given, (1, 1))
        given[0] = (9, 9)
        given.pop()
        self.assertEqual(told, [(0, 0), (4, 0), (0, 4)])
        self.assertEqual(places, [1, 2])
        self.assertEqual(corners(given), [(4, 0), (9, 9)])
        self.assertEqual(land(given), 0)
        self.assertEqual(spots(given), (2, 2))
        self.assertEqual(farthest(given, (1, 1)), [0])

    def test_answers_do_not_hang_on_the_herd(self):
        given = [(0, 0), (4, 0), (0, 4), (1, 1)]
        mixed = within(given, (2, 2))
        meeting = between(given, given)
        halves = cut(given)
        before = copy.deepcopy([mixed.parts, meeting.first, meeting.second, halves.first, halves.second])
        herd = list(given)
        given.clear()
        after = [mixed.parts, meeting.first, meeting.second, halves.first, halves.second]
        self.assertEqual(after, before)
        self.assertIs(mixed.shows(herd, (2, 2)), True)
        self.assertIs(meeting.shows(herd, herd), True)
        self.assertIs(halves.shows(herd, herd), True)

    def test_mixtures_told_are_new(self):
        herd = [(0, 0), (4, 0), (0, 4), (1, 1)]
        for ask in (lambda: [within(herd, (2, 2)).parts],
                    lambda: [between(herd, herd).first, between(herd, herd).second],
                    lambda: [between(herd, [(1, 1)]).first, between([(1, 1)], herd).second],
                    lambda: [between([(2, 0), (2, 9)], [(0, 2), (9, 3)]).first],
                    lambda: [cut(herd).first, cut(herd).second]):
            before = copy.deepcopy(ask())
            for parts in ask():
                parts.append("another")
            self.assertEqual(ask(), before)
        meeting = between(herd, herd)
        self.assertIsNot(meeting.first, meeting.second)


if __name__ == "__main__":
    unittest.main()
