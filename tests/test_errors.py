import unittest

from markrun import errors
from refusals import REFUSALS


class Errors(unittest.TestCase):
    def test_run_error_stands_straight_beneath_value_error(self):
        self.assertEqual(errors.RunError.__bases__, (ValueError,))

    def test_the_six_stand_side_by_side_straight_beneath_run_error(self):
        self.assertEqual(len(set(REFUSALS)), 6)
        for refusal in REFUSALS:
            with self.subTest(refusal=refusal):
                self.assertEqual(refusal.__bases__, (errors.RunError,))

    def test_each_is_taken_as_run_error_and_as_none_of_the_others(self):
        for refusal in REFUSALS:
            with self.subTest(refusal=refusal):
                met = [one for one in REFUSALS if isinstance(refusal("words"), one)]
                self.assertEqual(met, [refusal])
                with self.assertRaises(errors.RunError):
                    raise refusal("words")

    def test_there_are_no_other_refusals(self):
        there = {thing for thing in vars(errors).values() if isinstance(thing, type)}
        self.assertEqual(there, set(REFUSALS) | {errors.RunError})


if __name__ == "__main__":
    unittest.main()
