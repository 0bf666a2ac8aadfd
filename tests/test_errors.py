import unittest

from doorwatch.errors import DoorError, NoDeed, NoText, NoWay, NoZone

REFUSALS = (NoZone, NoWay, NoDeed, NoText)


class TestErrors(unittest.TestCase):
    def test_each_is_caught_as_a_door_error_and_as_a_value_error(self):
        for refusal in REFUSALS:
            for wider in (refusal, DoorError, ValueError):
                with self.subTest(refusal=refusal, wider=wider), self.assertRaises(wider):
                    raise refusal("words")

    def test_none_is_caught_as_another(self):
        for refusal in REFUSALS:
            for other in REFUSALS:
                if other is not refusal:
                    self.assertFalse(issubclass(refusal, other), (refusal, other))

    def test_door_error_stands_above_them_all_and_below_value_error(self):
        self.assertEqual(DoorError.__bases__, (ValueError,))
        for refusal in REFUSALS:
            self.assertEqual(refusal.__bases__, (DoorError,))


if __name__ == "__main__":
    unittest.main()
