import unittest

from seatbuttons import limits


class Limits(unittest.TestCase):
    def test_each_number(self):
        told = {
            "MOST_PLACES": 24,
            "MOST_BUTTONS": 8,
            "MOST_PRESSES": 2000,
            "MOST_TIMES": 1000000000000000000000000000000,
            "MOST_MAKING": 20000,
            "MOST_TURNS": 20000,
            "MOST_REACHED": 50000,
            "MOST_SHOWN": 5000,
            "MOST_LOOKS": 12,
        }
        for name, number in told.items():
            self.assertEqual(getattr(limits, name), number)
            self.assertIs(type(getattr(limits, name)), int)

    def test_no_other_number(self):
        self.assertEqual(len([name for name in vars(limits) if not name.startswith("_")]), 9)


if __name__ == "__main__":
    unittest.main()
