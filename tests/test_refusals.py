"""The order of the refusals that all calls have: -1 ahead of -2, and -2 ahead of a call's own."""

import unittest

from tests.helper import HUGE, PYRAMID, SQUARE, TRIANGLE, ask, call, load

SLOT, COORDINATE, HEIGHT, NUMBER = (1, 4), (0, 10000), (-10000, 10000), (1, 200)

# Ranges, how many slots are asked, and arguments with as many faults of the call's own as may be.
CALLS = {
    "text": ([SLOT], 1, [1]),
    "facts": ([SLOT], 1, [1]),
    "height": ([SLOT, (0, 10000000), (0, 10000000), (1, 1000)], 1, [1, 1, 1, 1]),
    "volume": ([SLOT, HEIGHT], 1, [1, 0]),
    "net": ([SLOT, SLOT], 2, [1, 2]),
    "cells": ([SLOT, SLOT, (500, 5000)], 2, [1, 2, 501]),
    "outline": ([SLOT], 1, [1]),
    "slope": ([SLOT, NUMBER], 1, [1, 200]),
    "steep": ([SLOT, (0, 1000), (1, 1000)], 1, [1, 1, 1]),
    "contour": ([SLOT, HEIGHT], 1, [1, 0]),
    "profile": ([SLOT, COORDINATE, COORDINATE, COORDINATE, COORDINATE, (1, 50)], 1, [1, 0, 0, 9, 9, 2]),
    "down": ([SLOT, NUMBER], 1, [1, 200]),
    "basins": ([SLOT], 1, [1]),
    "around": ([SLOT, NUMBER], 1, [1, 200]),
    "raise": ([SLOT, NUMBER, HEIGHT], 1, [1, 200, 0]),
    "insert": ([SLOT, COORDINATE, COORDINATE, HEIGHT], 1, [1, 9000, 9000, 0]),
    "flip": ([SLOT, NUMBER, NUMBER], 1, [1, 200, 200]),
    "copy": ([SLOT, SLOT], 1, [1, 2]),
    "shift": ([SLOT, HEIGHT], 1, [1, 10000]),
    "same": ([SLOT, SLOT], 2, [1, 2]),
    "find": ([SLOT, COORDINATE, COORDINATE], 1, [1, 9000, 9000]),
}

# What the arguments above answer where they are refused in the end.
OWN = {
    "net": -5, "cells": -6, "slope": -4, "down": -3, "around": -4, "raise": -3, "insert": -8, "flip": -4, "shift": -11,
}

TEXTS = [call("text", slot) for slot in (1, 2, 3, 4)]


class Refusals(unittest.TestCase):
    def with_values(self, ends):
        """For each call and argument: the arguments with each of the values that its range gives."""
        for name, (ranges, asked, arguments) in CALLS.items():
            for position, (least, greatest) in enumerate(ranges):
                for value in ends(least, greatest):
                    changed = list(arguments)
                    changed[position] = value
                    yield name, asked, changed

    def test_beyond_a_range_it_is_1_whatever_else_is_wrong(self):
        for name, asked, arguments in self.with_values(lambda least, most: (least - 1, most + 1, -HUGE, HUGE)):
            one = call(name, *arguments)
            self.assertEqual(ask(one), [[-1]], one)
            told = ask(load(1, TRIANGLE), load(2, SQUARE), load(3, PYRAMID), *TEXTS, one, *TEXTS)
            self.assertEqual(told[7], [-1], one)
            self.assertEqual(told[3:7], told[8:], one)

    def test_the_ends_of_a_range_are_within_it(self):
        for name, asked, arguments in self.with_values(lambda least, most: (least, most)):
            one = call(name, *arguments)
            self.assertEqual(ask(one), [[-2]], one)
            loads = [load(slot, TRIANGLE) for slot in (1, 2, 3, 4)]
            self.assertNotIn(ask(*loads, one)[-1], ([-1], [-2]), one)

    def test_a_slot_without_a_surface_is_told_ahead_of_the_calls_own(self):
        for name, (ranges, asked, arguments) in CALLS.items():
            for position in range(asked):
                changed = list(arguments)
                changed[position] = 4
                told = ask(load(1, TRIANGLE), load(2, SQUARE), *TEXTS, call(name, *changed), *TEXTS)
                self.assertEqual(told[6], [-2], name)
                self.assertEqual(told[2:6], told[7:], name)

    def test_the_calls_own(self):
        for name, (ranges, asked, arguments) in CALLS.items():
            told = ask(load(1, TRIANGLE), load(2, SQUARE), *TEXTS, call(name, *arguments), *TEXTS)
            if name in OWN:
                self.assertEqual(told[6], [OWN[name]], name)
                self.assertEqual(told[2:6], told[7:], name)
            else:
                self.assertEqual(told[6][0], 0, name)


if __name__ == "__main__":
    unittest.main()
