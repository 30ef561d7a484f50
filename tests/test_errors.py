import unittest

from heapmeld import errors

NAMES = ["BadHeap", "BadKey", "BadShape", "BadCount", "BadNumber", "BadPile", "NotLeaning", "Empty", "TooMany"]


class Errors(unittest.TestCase):
    def test_heap_error_is_a_value_error(self):
        self.assertEqual(errors.HeapError.__bases__, (ValueError,))

    def test_each_class_is_straight_under_heap_error(self):
        for name in NAMES:
            with self.subTest(name=name):
                self.assertEqual(getattr(errors, name).__bases__, (errors.HeapError,))

    def test_each_can_be_raised_and_caught_as_its_kind(self):
        for name in NAMES:
            with self.subTest(name=name), self.assertRaises(ValueError):
                raise getattr(errors, name)("why")


if __name__ == "__main__":
    unittest.main()
