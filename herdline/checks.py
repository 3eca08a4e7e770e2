"""What counts as a herd, a spot, a way or a fraction, and the refusal of all else."""

from herdline.errors import BadHerd, BadSpot, BadWay
from herdline.fractions import common_divisor

BOUND = 1000
MOST_SPOTS = 8


def is_number(value):
    # For Python True and False are whole numbers too; here they are none.
    return isinstance(value, int) and not isinstance(value, bool)


def is_pair(value):
    # A spot and a way are held to the same bounds, so one test serves both.
    if not isinstance(value, tuple) or len(value) != 2:
        return False
    return all([is_number(part) and -BOUND <= part <= BOUND for part in value])


def is_herd(value):
    if not isinstance(value, list) or not 1 <= len(value) <= MOST_SPOTS:
        return False
    return all([is_pair(spot) for spot in value])


def is_fraction(value):
    if not isinstance(value, tuple) or len(value) != 2 or not all([is_number(part) for part in value]):
        return False
    return value[1] > 0 and common_divisor(value[0], value[1]) == 1


def check_herd(herd):
    if not is_herd(herd):
        raise BadHerd("a herd is a list of 1 to 8 spots, pairs of whole numbers from -1000 to 1000")


def check_spot(spot):
    if not is_pair(spot):
        raise BadSpot("a spot is a pair of whole numbers from -1000 to 1000")


def check_way(way):
    if not is_pair(way):
        raise BadWay("a way is a pair of whole numbers from -1000 to 1000")
