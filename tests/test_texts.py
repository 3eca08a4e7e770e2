import re
import unittest

from herdline.errors import BadText
from herdline.telling import between
from herdline.texts import read, written
from reference import drawn_herds

SIGNS = [chr(number) for number in range(32, 127)] + ["\n", "\t", "\r", "\x0b", "\x0c", "\0", "\x1f"]
NUMBER = "(?:0|-?[1-9][0-9]*)"
TEXT = re.compile(f"{NUMBER},{NUMBER}(?: {NUMBER},{NUMBER})*")

TEXTS = {
    "0,0": [(0, 0)],
    "1,-2": [(1, -2)],
    "-10,20 30,-40": [(-10, 20), (30, -40)],
    "1000,-1000 -1000,1000 999,-999": [(1000, -1000), (-1000, 1000), (999, -999)],
    "0,0 0,0 0,0 0,0 0,0 0,0 0,0 0,0": [(0, 0)] * 8,
    "1,2 3,4 5,6 7,8 9,10 11,12 13,14 101,200": [(1, 2), (3, 4), (5, 6), (7, 8), (9, 10), (11, 12), (13, 14),
                                                 (101, 200)],
}

BAD = ["", " ", "  ", ",", "-", "0", "1 2", "1,2,3", "1,", ",1", "1,2 ", " 1,2", "1,2  3,4", "1,2 3", "1,2 ,3", "1 ,2",
       "1, 2", "1,2,3,4", "1,2;3,4", "1;2", "+1,2", "1,+2", "-0,0", "0,-0", "00,0", "01,2", "1,02", "-01,2", "--1,2",
       "- 1,2", "1-,2", "1001,0", "0,1001", "-1001,0", "0,-1001", "10000,0", "9" * 1000 + ",0", "9" * 6000 + ",0",
       "0" * 6000 + ",0", "0,0 " * 8 + "0,0", "0,0 " * 500 + "0,0", "1,2\n", "\n1,2", "1,2\n3,4", "1\n,2", "1,2\t3,4",
       "1,2\r", "1_0,2", "1.0,2", "1e2,0", "0x1,0", "a,b", "(1,2)", "[(1, 2)]", "1,2 3,4 x", "None", "1,2\0", "1 2,3 4"]


class OddText:
    def __str__(self):
        return "1,2"

    def __len__(self):
        raise RuntimeError("asked for its length")

    def __eq__(self, other):
        raise RuntimeError("compared")


NO_TEXTS = [None, True, False, 0, 12, 1.5, (), (1, 2), [], ["1,2"], [(1, 2)], {}, b"", b"1,2", bytearray(b"1,2"), str,
            object(), OddText(), iter("1,2"), {"1,2"}]


def outcome(text):
    try:
        return read(text)
    except Exception as error:
        return type(error)


def expected(text):
    """The herd that the text is, by point 9, or BadText."""
    if TEXT.fullmatch(text) is None:
        return BadText
    herd = [tuple(int(number) for number in word.split(",")) for word in text.split(" ")]
    inside = all(-1000 <= number <= 1000 for spot in herd for number in spot)
    return herd if inside and len(herd) <= 8 else BadText


def one_sign_off(text):
    for place in range(len(text) + 1):
        yield text[:place] + text[place + 1:]
        for sign in SIGNS:
            yield text[:place] + sign + text[place:]
            yield text[:place] + sign + text[place + 1:]


class Texts(unittest.TestCase):
    def test_written(self):
        for text, herd in TEXTS.items():
            self.assertEqual(written(herd), text)

    def test_read(self):
        for text, herd in TEXTS.items():
            self.assertEqual(read(text), herd)

    def test_kinds(self):
        herd = read("1,2 -3,4")
        self.assertIs(type(written(herd)), str)
        self.assertIs(type(herd), list)
        for spot in herd:
            self.assertIs(type(spot), tuple)
            self.assertEqual([type(number) for number in spot], [int, int])

    def test_read_back(self):
        for bound in (2, 30, 1000):
            for herd in drawn_herds(80, bound):
                self.assertEqual(read(written(herd)), herd)

    def test_every_number(self):
        for number in range(-1000, 1001):
            text = f"{number},{-number}"
            self.assertEqual(written([(number, -number)]), text)
            self.assertEqual(read(text), [(number, -number)])

    def test_bad_texts(self):
        for text in BAD:
            with self.subTest(text=text[:40]):
                self.assertIs(outcome(text), BadText)

    def test_no_texts(self):
        for number, wrong in enumerate(NO_TEXTS):
            with self.subTest(number=number):
                self.assertIs(outcome(wrong), BadText)

    def test_one_sign_off(self):
        for text in TEXTS:
            for other in one_sign_off(text):
                found = outcome(other)
                self.assertEqual(found, expected(other), repr(other))
                if found is not BadText:
                    self.assertEqual(written(found), other)

    def test_what_is_read_is_new(self):
        text = "1,2 3,4"
        first = read(text)
        first.clear()
        self.assertEqual(read(text), [(1, 2), (3, 4)])
        self.assertIs(between(read(text), read(text)).shows(read(text), read(text)), True)


if __name__ == "__main__":
    unittest.main()
