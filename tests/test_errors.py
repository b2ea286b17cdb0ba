import unittest

from jughouse.errors import BadGoal, BadHouse, BadMove, BadState, BadText, JugError


class Errors(unittest.TestCase):
    def test_jug_error_stands_under_value_error(self):
        self.assertEqual(JugError.__bases__, (ValueError,))

    def test_each_refusal_stands_straight_under_jug_error(self):
        for kind in [BadHouse, BadState, BadMove, BadGoal, BadText]:
            with self.subTest(kind.__name__):
                self.assertEqual(kind.__bases__, (JugError,))
                with self.assertRaises(JugError):
                    raise kind("words")

    def test_they_are_five_different_ones(self):
        self.assertEqual(len({BadHouse, BadState, BadMove, BadGoal, BadText}), 5)


if __name__ == "__main__":
    unittest.main()
