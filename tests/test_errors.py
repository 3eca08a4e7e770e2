import unittest

from herdline import errors


class Errors(unittest.TestCase):
    def test_herd_error_is_straight_under_value_error(self):
        self.assertEqual(errors.HerdError.__bases__, (ValueError,))

    def test_each_refusal_is_straight_under_herd_error(self):
        for name in ("BadHerd", "BadSpot", "BadWay", "TooFew", "BadText"):
            with self.subTest(name=name):
                refusal = getattr(errors, name)
                self.assertEqual(refusal.__name__, name)
                self.assertEqual(refusal.__bases__, (errors.HerdError,))


if __name__ == "__main__":
    unittest.main()
