"""One herd: its corners, its land, the spots that it holds, and its farthest places."""

from herdline.checks import check_herd, check_way
from herdline.fractions import common_divisor


def leftness(start, end, spot):
    # Above 0 if the spot is to the left of whoever goes from start to end, 0 if on that line.
    along = (end[0] - start[0]) * (spot[1] - start[1])
    across = (end[1] - start[1]) * (spot[0] - start[0])
    return along - across


def reach(way, spot):
    return way[0] * spot[0] + way[1] * spot[1]


def left_chain(row):
    chain = []
    for spot in row:
        # A spot straight on lies between two others, so it goes too, not only one to the right.
        while len(chain) > 1 and leftness(chain[-2], chain[-1], spot) <= 0:
            chain.pop()
        chain.append(spot)
    return chain


def corners(herd):
    check_herd(herd)
    # Pairs made anew, so that nothing told is a thing that was handed in.
    row = sorted(set([(spot[0], spot[1]) for spot in herd]))
    if len(row) == 1:
        return row
    below = left_chain(row)
    above = left_chain(list(reversed(row)))
    # Each chain ends where the other one begins.
    return below[:-1] + above[:-1]


def sides(around):
    return list(zip(around, around[1:] + around[:1]))


def twice_area(around):
    return sum([start[0] * end[1] - start[1] * end[0] for start, end in sides(around)])


def steps_round(around):
    return sum([common_divisor(end[0] - start[0], end[1] - start[1]) for start, end in sides(around)])


def land(herd):
    return twice_area(corners(herd))


def spots(herd):
    around = corners(herd)
    steps = steps_round(around)
    # Pick's theorem. It holds for one corner (no steps) and for two (each step there and back) as well.
    held = (twice_area(around) + steps) // 2 + 1
    if len(around) < 3:
        return (held, held)
    return (held, steps)


def farthest(herd, way):
    check_herd(herd)
    check_way(way)
    reaches = [reach(way, spot) for spot in herd]
    greatest = max(reaches)
    return [place for place, far in enumerate(reaches) if far == greatest]
