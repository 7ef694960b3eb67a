"""Promise 20: levels."""

import random
import unittest
from fractions import Fraction
from math import floor

from tests.helper import HUGE, SQUARE, ask, call, levels, load


def told(differences, lengths):
    return ask(levels(differences, lengths))[0]


class Levels(unittest.TestCase):
    def test_a_sum_above_0(self):
        self.assertEqual(told([5, -3, 4], [1, 1, 1]), [0, 6, -2, -2, -2])
        self.assertEqual(told([100, -40], [1, 3]), [0, 60, -15, -45])

    def test_a_sum_below_0(self):
        self.assertEqual(told([-5, 3, -4], [1, 1, 1]), [0, -6, 2, 2, 2])
        self.assertEqual(told([-100, 40], [1, 3]), [0, -60, 15, 45])

    def test_a_sum_of_0(self):
        self.assertEqual(told([7, -10, 3], [3, 2, 9]), [0, 0, 0, 0, 0])
        self.assertEqual(told([0], [5]), [0, 0, 0])

    def test_rounded_down_below_0(self):
        # -1/3, -2/3, -1 come down to -1, -1, -1.
        self.assertEqual(told([1, 0, 0], [1, 1, 1]), [0, 1, -1, 0, 0])
        # -2/3, -4/3, -2 come down to -1, -2, -2.
        self.assertEqual(told([0, 2, 0], [1, 1, 1]), [0, 2, -1, -1, 0])
        # -7 * 2 / 10, -7 * 5 / 10, -7 come down to -2, -4, -7.
        self.assertEqual(told([3, 3, 1], [2, 3, 5]), [0, 7, -2, -2, -3])

    def test_rounded_down_above_0(self):
        # 1/3, 2/3, 1 come down to 0, 0, 1.
        self.assertEqual(told([-1, 0, 0], [1, 1, 1]), [0, -1, 0, 0, 1])
        self.assertEqual(told([0, -2, 0], [1, 1, 1]), [0, -2, 0, 1, 1])
        # 7 * 2 / 10, 7 * 5 / 10, 7 come down to 1, 3, 7.
        self.assertEqual(told([-3, -3, -1], [2, 3, 5]), [0, -7, 1, 2, 4])

    def test_the_order_of_the_lengths_counts(self):
        self.assertEqual(told([10, 0, 0], [1, 2, 4]), [0, 10, -2, -3, -5])
        self.assertEqual(told([10, 0, 0], [4, 2, 1]), [0, 10, -6, -3, -1])

    def test_1_difference(self):
        self.assertEqual(told([9], [4]), [0, 9, -9])
        self.assertEqual(told([-9], [1000000]), [0, -9, 9])

    def test_30_differences(self):
        self.assertEqual(told([1000000] * 30, [1000000] * 30), [0, 30000000] + [-1000000] * 30)
        self.assertEqual(told([-1000000] * 30, [1] * 30), [0, -30000000] + [1000000] * 30)
        self.assertEqual(told([1] + [0] * 29, [1] * 30), [0, 1, -1] + [0] * 29)
        self.assertEqual(told([-1] + [0] * 29, [1] * 30), [0, -1] + [0] * 29 + [1])

    def test_no_difference_and_31(self):
        self.assertEqual(told([], []), [-1])
        self.assertEqual(told([1] * 31, [1] * 31), [-1])
        self.assertEqual(told([1] * 60, [1] * 60), [-1])
        # The count of the differences is looked at ahead of that of the lengths.
        self.assertEqual(told([], [1]), [-1])
        self.assertEqual(told([1] * 31, [1] * 30), [-1])
        self.assertEqual(told([1] * 31, []), [-1])

    def test_other_counts_of_lengths(self):
        self.assertEqual(told([1], []), [-12])
        self.assertEqual(told([1, 2, 3], [1, 1]), [-12])
        self.assertEqual(told([1, 2, 3], [1, 1, 1, 1]), [-12])
        self.assertEqual(told([1, 2, 3], []), [-12])
        self.assertEqual(told([1] * 30, [1] * 29), [-12])
        self.assertEqual(told([1] * 30, [1] * 31), [-12])
        self.assertEqual(told([1], [1] * 60), [-12])

    def test_the_ends_of_the_ranges(self):
        self.assertEqual(told([-1000000, 1000000], [1, 1000000]), [0, 0, 0, 0])
        for beyond in (-1000001, 1000001, HUGE, -HUGE):
            self.assertEqual(told([beyond, 0], [1, 1]), [-1])
            self.assertEqual(told([0, beyond], [1, 1]), [-1])
        for beyond in (0, -1, 1000001, HUGE, -HUGE):
            self.assertEqual(told([0, 0], [beyond, 1]), [-1])
            self.assertEqual(told([0, 0], [1, beyond]), [-1])

    def test_a_number_out_of_range_is_told_ahead_of_other_counts(self):
        self.assertEqual(told([0, 1000001], [1]), [-1])
        self.assertEqual(told([0, 0], [0]), [-1])
        self.assertEqual(told([0], [1, 1000001]), [-1])
        self.assertEqual(told([0], [1] * 59 + [0]), [-1])
        self.assertEqual(told([-1000001], []), [-1])

    def test_no_slot_is_asked_or_changed(self):
        texts = [call("text", slot) for slot in (1, 2, 3, 4)]
        answers = ask(levels([1], [1]), load(2, SQUARE), *texts, levels([4, 4], [1, 1]), levels([4, 4], [1]),
                      levels([], []), *texts)
        self.assertEqual(answers[0], [0, 1, -1])
        self.assertEqual(answers[6:9], [[0, 8, -4, -4], [-12], [-1]])
        self.assertEqual(answers[2:6], answers[9:])

    def test_between_other_calls(self):
        self.assertEqual(ask(levels([1], [2]), levels([2], []), levels([], []), call("text", 1), levels([3], [1])),
                         [[0, 1, -1], [-12], [-1], [-2], [0, 3, -3]])

    def test_reckoned_otherwise(self):
        chance = random.Random(20)
        for turn in range(300):
            count = chance.randint(1, 30)
            spread, far = chance.choice((1, 9, 1000000)), chance.choice((1, 7, 1000000))
            differences = [chance.randint(-spread, spread) for one in range(count)]
            lengths = [chance.randint(1, far) for one in range(count)]
            expected = [0, sum(differences)]
            for at in range(count):
                part = Fraction(-sum(differences), sum(lengths))
                expected.append(floor(part * sum(lengths[:at + 1])) - floor(part * sum(lengths[:at])))
            self.assertEqual(told(differences, lengths), expected)
            self.assertEqual(sum(expected[2:]), -expected[1])


if __name__ == "__main__":
    unittest.main()
