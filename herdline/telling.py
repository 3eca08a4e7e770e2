"""What is told of a herd and a spot, of two herds, and of a herd that is cut."""

from herdline.answers import Apart, Meeting, Mixed, Parted
from herdline.checks import check_herd, check_spot
from herdline.errors import TooFew
from herdline.fractions import made
from herdline.herds import leftness, reach

FEWEST_TO_CUT = 4


def ones(count):
    return [[place] for place in range(count)]


def grown(groups, count):
    longer = []
    for group in groups:
        longer.extend([group + [place] for place in range(group[-1] + 1, count)])
    return longer


def twos(count):
    return grown(ones(count), count)


def threes(count):
    return grown(twos(count), count)


def step(start, end):
    return (end[0] - start[0], end[1] - start[1])


def weighed(places, amounts):
    # Amounts stand to one another as the weights do; with a 0 or both signs among them there is no mixture.
    if min(amounts) <= 0 <= max(amounts):
        return []
    whole = abs(sum(amounts))
    return [(place, made(abs(amount), whole)) for place, amount in zip(places, amounts)]


def line_amounts(start, end, spot):
    if leftness(start, end, spot) != 0:
        return [0, 0]
    way = step(start, end)
    return [reach(way, end) - reach(way, spot), reach(way, spot) - reach(way, start)]


def amounts_at(row, spot):
    if len(row) == 1:
        return [1 if row[0] == spot else 0]
    if len(row) == 2:
        return line_amounts(row[0], row[1], spot)
    # Each of three spots counts as much as the triangle that the other two make with the spot.
    return [leftness(row[1], row[2], spot), leftness(row[2], row[0], spot), leftness(row[0], row[1], spot)]


def mixture_at(herd, spot):
    count = len(herd)
    for places in ones(count) + twos(count) + threes(count):
        parts = weighed(places, amounts_at([herd[place] for place in places], spot))
        if parts != []:
            return parts
    return []


def held(one, other):
    for place, spot in enumerate(one):
        parts = mixture_at(other, spot)
        if parts != []:
            return [weighed([place], [1]), parts]
    return []


def cross_amounts(row, line):
    return [-leftness(line[0], line[1], row[1]), leftness(line[0], line[1], row[0])]


def crossed(one, other):
    for places in twos(len(one)):
        row = [one[place] for place in places]
        for others in twos(len(other)):
            line = [other[place] for place in others]
            found = [weighed(places, cross_amounts(row, line)), weighed(others, cross_amounts(line, row))]
            if [] not in found:
                return found
    return []


def shared(one, other):
    # Where two herds meet, one holds a spot of the other, or lines between two spots of each cross.
    found = held(one, other)
    if found == []:
        found = list(reversed(held(other, one)))
    if found == []:
        found = crossed(one, other)
    return found


def ways_over(one, other):
    # The shortest way from herd to herd goes from spot to spot, or square from a line between two spots of one herd.
    ways = []
    for start in one:
        ways.extend([step(start, end) for end in other])
    for herd in (one, other):
        for start in herd:
            ways.extend([(start[1] - end[1], end[0] - start[0]) for end in herd])
    return ways


def far_end(way, herd):
    return max([reach(way, spot) for spot in herd])


def near_end(way, herd):
    return min([reach(way, spot) for spot in herd])


def fence_between(one, other):
    way = max(ways_over(one, other), key=lambda each: near_end(each, other) - far_end(each, one))
    # Twice the way, since between two whole numbers there may be no other one.
    return (2 * way[0], 2 * way[1], far_end(way, one) + near_end(way, other))


def within(herd, spot):
    check_herd(herd)
    check_spot(spot)
    parts = mixture_at(herd, spot)
    if parts == []:
        return Apart(fence_between(herd, [spot]))
    return Mixed(parts)


def between(one, other):
    check_herd(one)
    check_herd(other)
    found = shared(one, other)
    if found == []:
        return Parted(fence_between(one, other))
    return Meeting(found[0], found[1])


def renamed(parts, places):
    return [(places[place], weight) for place, weight in parts]


def cut_at(herd, places):
    others = [place for place in range(FEWEST_TO_CUT) if place not in places]
    found = shared([herd[place] for place in places], [herd[place] for place in others])
    if found == []:
        return []
    return [renamed(found[0], places), renamed(found[1], others)]


def cut(herd):
    check_herd(herd)
    if len(herd) < FEWEST_TO_CUT:
        raise TooFew("a herd that is cut has four spots or more")
    # Any four spots of a plane can be cut (Radon's theorem), so the first four are enough.
    tried = [cut_at(herd, places) for places in ones(FEWEST_TO_CUT) + twos(FEWEST_TO_CUT)]
    found = [mixtures for mixtures in tried if mixtures != []]
    return Meeting(found[0][0], found[0][1])
