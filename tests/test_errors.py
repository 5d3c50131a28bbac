import unittest

from handwatch.errors import NoDeed, NoText, WatchError


class Errors(unittest.TestCase):
    def test_any_refusal_is_a_value_error(self):
        self.assertEqual(WatchError.__bases__, (ValueError,))

    def test_each_refusal_stands_below_watch_error(self):
        for refusal in (NoText, NoDeed):
            self.assertTrue(issubclass(refusal, WatchError))
            self.assertIsNot(refusal, WatchError)

    def test_none_stands_below_another(self):
        self.assertFalse(issubclass(NoText, NoDeed))
        self.assertFalse(issubclass(NoDeed, NoText))

    def test_each_is_raised_and_taken(self):
        for refusal in (WatchError, NoText, NoDeed):
            with self.assertRaises(WatchError) as taken:
                raise refusal("some words")
            self.assertEqual(str(taken.exception), "some words")


if __name__ == "__main__":
    unittest.main()
