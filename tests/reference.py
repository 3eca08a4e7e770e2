"""Herds by the words of the document alone, slow and plain, to hold the program against."""

import itertools
import math
import random
from fractions import Fraction


def on_line(start, end, point):
    """Whether the point is on the straight line from start to end, both ends with it."""
    if start == end:
        return point == start
    dx, dy = end[0] - start[0], end[1] - start[1]
    px, py = point[0] - start[0], point[1] - start[1]
    if dx * py != dy * px:
        return False
    return 0 <= px * dx + py * dy <= dx * dx + dy * dy


def weights(first, second, third, point):
    """The weights of three spots that are not on one line, together 1, that are the point."""
    ax, ay = second[0] - first[0], second[1] - first[1]
    bx, by = third[0] - first[0], third[1] - first[1]
    px, py = point[0] - first[0], point[1] - first[1]
    whole = ax * by - ay * bx
    if whole == 0:
        return None
    one = Fraction(px * by - py * bx, whole)
    two = Fraction(ax * py - ay * px, whole)
    return (1 - one - two, one, two)


def holds(herd, point):
    """Whether a mixture of the herd, of at most three places, is the point."""
    for one, other in itertools.product(herd, repeat=2):
        if on_line(one, other, point):
            return True
    for three in itertools.combinations(herd, 3):
        found = weights(*three, point)
        if found is not None and min(found) >= 0:
            return True
    return False


def corner_spots(herd):
    """The corners as the document names them, in no turn."""
    return {spot for spot in herd if not holds([other for other in herd if other != spot], spot)}


def left_of(first, second, third):
    """Whether the third stands to the left of whoever goes from the first to the second."""
    ahead = (second[0] - first[0], second[1] - first[1])
    left = (-ahead[1], ahead[0])
    return left[0] * (third[0] - first[0]) + left[1] * (third[1] - first[1]) > 0


def whole_spots(herd):
    """All whole spots that the herd holds."""
    wide = range(min(x for x, y in herd), max(x for x, y in herd) + 1)
    high = range(min(y for x, y in herd), max(y for x, y in herd) + 1)
    return [point for point in itertools.product(wide, high) if holds(herd, point)]


def is_mixture(parts, herd):
    """Whether the parts are a mixture of the herd, as point 2 tells."""
    if type(parts) is not list or not 1 <= len(parts) <= 3:
        return False
    for place, weight in parts:
        if type(place) is not int or type(weight) is not tuple or len(weight) != 2:
            return False
        a, b = weight
        if a <= 0 or b <= 0 or math.gcd(a, b) != 1 or place not in range(len(herd)):
            return False
    places = [place for place, weight in parts]
    return places == sorted(set(places)) and sum(Fraction(*weight) for place, weight in parts) == 1


def point_of(parts, herd):
    """The point that a mixture of the herd is."""
    across = sum(Fraction(*weight) * herd[place][0] for place, weight in parts)
    up = sum(Fraction(*weight) * herd[place][1] for place, weight in parts)
    return (across, up)


def sides_of(fence, herd):
    """For each spot -1 if it is beneath the fence, 0 if on it, 1 if beyond."""
    a, b, c = fence
    heights = [a * x + b * y - c for x, y in herd]
    return [(height > 0) - (height < 0) for height in heights]


def is_fence(fence):
    """Whether it is a triple of whole numbers, the first two not both 0."""
    return type(fence) is tuple and [type(part) for part in fence] == [int] * 3 and fence[:2] != (0, 0)


def is_mixed(parts, herd, spot):
    """Whether point 3 tells so of a mixture, this herd and this spot."""
    return is_mixture(parts, herd) and point_of(parts, herd) == spot


def is_apart(fence, herd, spot):
    """Whether point 3 tells so of a fence, this herd and this spot."""
    return is_fence(fence) and 1 not in sides_of(fence, herd) and sides_of(fence, [spot]) == [1]


def is_parted(fence, one, other):
    """Whether point 7 tells so of a fence and these herds."""
    return is_fence(fence) and set(sides_of(fence, one)) == {-1} and set(sides_of(fence, other)) == {1}


def is_meeting(first, second, one, other):
    """Whether point 7 tells so of two mixtures and these herds."""
    if not is_mixture(first, one) or not is_mixture(second, other):
        return False
    return point_of(first, one) == point_of(second, other)


def small_herds():
    """Every herd of one to three spots in a square of three by three."""
    square = list(itertools.product(range(3), repeat=2))
    for size in (1, 2, 3):
        for herd in itertools.product(square, repeat=size):
            yield list(herd)


def drawn_herds(how_many, bound):
    """Herds of 1 to 8 spots, always the same ones, with numbers to the bound either way."""
    draw = random.Random(f"{how_many} {bound}")
    for turn in range(how_many):
        size = turn % 8 + 1
        yield [(draw.randint(-bound, bound), draw.randint(-bound, bound)) for _ in range(size)]
