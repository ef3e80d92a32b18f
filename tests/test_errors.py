import unittest

from plain import REFUSALS
from tapeproof import errors


class TheClasses(unittest.TestCase):
    def test_any_refusal_is_a_value_error(self):
        self.assertEqual(errors.TapeError.__bases__, (ValueError,))

    def test_each_stands_straight_under_tape_error(self):
        for refusal in REFUSALS:
            with self.subTest(refusal=refusal.__name__):
                self.assertEqual(refusal.__bases__, (errors.TapeError,))

    def test_none_stands_beneath_another(self):
        for refusal in REFUSALS:
            for other in REFUSALS:
                with self.subTest(refusal=refusal.__name__, other=other.__name__):
                    self.assertEqual(issubclass(refusal, other), refusal is other)

    def test_each_is_caught_as_tape_error_and_as_value_error(self):
        for refusal in REFUSALS:
            for caught in (errors.TapeError, ValueError, refusal):
                with self.subTest(refusal=refusal.__name__, caught=caught.__name__):
                    with self.assertRaises(caught):
                        raise refusal("words")


class TheLineOfNoText(unittest.TestCase):
    def test_is_there_when_it_is_made(self):
        for line in (0, 1, 17):
            self.assertEqual(errors.NoText(line).line, line)

    def test_is_there_when_it_is_caught(self):
        with self.assertRaises(errors.NoText) as caught:
            raise errors.NoText(3)
        self.assertEqual(caught.exception.line, 3)

    def test_each_has_its_own(self):
        first = errors.NoText(1)
        second = errors.NoText(2)
        self.assertEqual((first.line, second.line), (1, 2))


if __name__ == "__main__":
    unittest.main()
