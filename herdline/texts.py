"""Herds as texts: spot by spot, with one blank between."""

from herdline.checks import check_herd, is_herd
from herdline.errors import BadText


def written(herd):
    check_herd(herd)
    return " ".join([str(spot[0]) + "," + str(spot[1]) for spot in herd])


def read_number(word):
    try:
        return int(word)
    except ValueError:
        raise BadText("a number is written in figures, with a - ahead if it is below nought") from None


def read(text):
    if not isinstance(text, str):
        raise BadText("what is read is a text")
    words = [word.split(",") for word in text.split(" ")]
    herd = [tuple([read_number(number) for number in numbers]) for numbers in words]
    # int takes more than is ever written (a plus, noughts ahead, a row's end), so the text must come back just so.
    if not is_herd(herd) or written(herd) != text:
        raise BadText("a text of a herd is 1 to 8 spots, written number,number with one blank between")
    return herd
