"""The answers that are told of herds, and whether they show what they tell."""

from herdline.checks import is_fraction, is_number
from herdline.fractions import plus, times
from herdline.herds import reach

MOST_PARTS = 3


def is_part(part, herd):
    if not isinstance(part, tuple) or len(part) != 2:
        return False
    # Python would count a place below 0 from the herd's end; here there is no such place.
    if not is_number(part[0]) or not 0 <= part[0] < len(herd):
        return False
    return is_fraction(part[1]) and part[1][0] > 0


def is_rising(places):
    return all([before < behind for before, behind in zip(places, places[1:])])


def total(row):
    so_far = (0, 1)
    for fraction in row:
        so_far = plus(so_far, fraction)
    return so_far


def is_mixture(parts, herd):
    if not isinstance(parts, list) or len(parts) > MOST_PARTS:
        return False
    if not all([is_part(part, herd) for part in parts]):
        return False
    return is_rising([place for place, weight in parts]) and total([weight for place, weight in parts]) == (1, 1)


def point(parts, herd):
    first = total([times(weight, (herd[place][0], 1)) for place, weight in parts])
    second = total([times(weight, (herd[place][1], 1)) for place, weight in parts])
    return (first, second)


def is_fence(fence):
    if not isinstance(fence, tuple) or len(fence) != 3 or not all([is_number(part) for part in fence]):
        return False
    return fence[0] != 0 or fence[1] != 0


def is_beneath(fence, spot):
    return reach(fence, spot) < fence[2]


def is_beyond(fence, spot):
    return reach(fence, spot) > fence[2]


class Answer:
    pass


class Mixed(Answer):
    def __init__(self, parts):
        self.parts = list(parts)

    def shows(self, herd, spot):
        return is_mixture(self.parts, herd) and point(self.parts, herd) == ((spot[0], 1), (spot[1], 1))


class Apart(Answer):
    def __init__(self, fence):
        self.fence = fence

    def shows(self, herd, spot):
        if not is_fence(self.fence) or not is_beyond(self.fence, spot):
            return False
        return all([not is_beyond(self.fence, own) for own in herd])


class Parted(Answer):
    def __init__(self, fence):
        self.fence = fence

    def shows(self, one, other):
        if not is_fence(self.fence) or not all([is_beneath(self.fence, spot) for spot in one]):
            return False
        return all([is_beyond(self.fence, spot) for spot in other])


class Meeting(Answer):
    def __init__(self, first, second):
        self.first = list(first)
        self.second = list(second)

    def shows(self, one, other):
        if not is_mixture(self.first, one) or not is_mixture(self.second, other):
            return False
        return point(self.first, one) == point(self.second, other)
