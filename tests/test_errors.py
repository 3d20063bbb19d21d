import unittest

from onestep.errors import StepError
from refusals import REFUSALS


class Errors(unittest.TestCase):
    def test_any_refusal_is_a_value_error(self):
        self.assertEqual(StepError.__bases__, (ValueError,))

    def test_each_refusal_stands_straight_under_step_error(self):
        for refusal in REFUSALS:
            with self.subTest(refusal=refusal.__name__):
                self.assertEqual(refusal.__bases__, (StepError,))

    def test_the_refusals_have_their_names(self):
        names = [refusal.__name__ for refusal in REFUSALS]
        self.assertEqual(names, ["NoSize", "NoPlace", "NoStep", "NoThing"])

    def test_a_refusal_takes_words(self):
        for refusal in (StepError,) + REFUSALS:
            with self.subTest(refusal=refusal.__name__):
                self.assertEqual(str(refusal("words")), "words")


if __name__ == "__main__":
    unittest.main()
