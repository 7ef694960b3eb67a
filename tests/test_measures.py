"""Promises 4, 5, 8 and 9: volume, net, slope and steep."""

import unittest

from tests.helper import PYRAMID, SQUARE, TRIANGLE, CallCase, ask, call, load, sixty_faces, surface


class Volume(CallCase):
    def test_above_levels(self):
        self.assertEqual(self.told(TRIANGLE, "volume", 1, 0), [0, 3000])
        self.assertEqual(self.told(TRIANGLE, "volume", 1, 1), [0, 2700])
        self.assertEqual(self.told(TRIANGLE, "volume", 1, 10), [0, 0])
        self.assertEqual(self.told(TRIANGLE, "volume", 1, -1), [0, 3300])

    def test_below_the_level_it_is_below_0(self):
        self.assertEqual(self.told(TRIANGLE, "volume", 1, 11), [0, -300])
        self.assertEqual(self.told(TRIANGLE, "volume", 1, 10000), [0, -2997000])
        self.assertEqual(self.told(TRIANGLE, "volume", 1, -10000), [0, 3003000])

    def test_several_faces(self):
        self.assertEqual(self.told(SQUARE, "volume", 1, 0), [0, 100 * 26 + 100 * 13])
        self.assertEqual(self.told(SQUARE, "volume", 1, 7), [0, 100 * 5 - 100 * 8])
        # A pyramid's volume is a third of 100 * 100 * 30.
        self.assertEqual(self.told(PYRAMID, "volume", 1, 0), [0, 600000])
        self.assertEqual(self.told(PYRAMID, "volume", 1, 10), [0, 0])

    def test_faces_of_several_areas(self):
        text = surface([(0, 0, 1), (30, 0, 2), (10, 10, 4), (0, 10, 8)], [(1, 2, 3), (1, 3, 4)])
        self.assertEqual(self.told(text, "volume", 1, 0), [0, 300 * 7 + 100 * 13])
        self.assertEqual(self.told(text, "volume", 1, 3), [0, -300 * 2 + 100 * 4])

    def test_the_largest(self):
        text = surface([(0, 0, 10000), (10000, 0, 10000), (10000, 10000, 10000), (0, 10000, 10000)],
                       [(1, 2, 3), (1, 3, 4)])
        self.assertEqual(self.told(text, "volume", 1, -10000), [0, 12000000000000])

    def test_refusals(self):
        self.needs_slots("volume", [1, 0], 1)
        self.refuses_outside("volume", [1, 0], 1, -10000, 10000)
        self.assertEqual(ask(call("volume", 1, 10001), call("volume", 1, 10000)), [[-1], [-2]])


class Net(CallCase):
    def told_of(self, first, second):
        answers = ask(load(1, first), load(2, second), call("net", 1, 2))
        self.assertEqual([answer[:2] for answer in answers[:2]], [[0, 0], [0, 0]])
        return answers[2]

    def test_second_less_first(self):
        higher = surface([(0, 0, 3), (10, 0, 10), (0, 10, 20)], [(1, 2, 3)])
        self.assertEqual(self.told_of(TRIANGLE, higher), [0, 300])
        self.assertEqual(self.told_of(higher, TRIANGLE), [0, -300])
        self.assertEqual(self.told_of(TRIANGLE, TRIANGLE), [0, 0])
        self.assertEqual(ask(load(4, SQUARE), call("net", 4, 4))[1], [0, 0])

    def test_heights_below_0(self):
        lower = surface([(0, 0, -5), (10, 0, -6), (0, 10, -7)], [(1, 2, 3)])
        self.assertEqual(self.told_of(TRIANGLE, lower), [0, -4800])
        self.assertEqual(self.told_of(lower, TRIANGLE), [0, 4800])

    def test_points_within_may_differ(self):
        plain = surface([(100, 100, 0), (0, 100, 0), (0, 0, 0), (100, 0, 0)], [(1, 2, 3), (3, 4, 1)])
        self.assertEqual(self.told_of(plain, PYRAMID), [0, 600000])
        self.assertEqual(self.told_of(PYRAMID, plain), [0, -600000])

    def test_numbers_and_first_points_may_differ(self):
        for points, face in (
            ([(10, 0, 10), (0, 10, 20), (0, 0, 3)], (1, 2, 3)),
            ([(0, 10, 20), (0, 0, 3), (10, 0, 10)], (3, 1, 2)),
            ([(0, 10, 20), (10, 0, 10), (0, 0, 3)], (1, 2, 3)),
        ):
            self.assertEqual(self.told_of(TRIANGLE, surface(points, [face])), [0, 300])

    def test_other_places_are_refused(self):
        moved = surface([(0, 0, 0), (11, 0, 10), (0, 10, 20)], [(1, 2, 3)])
        self.assertEqual(self.told_of(TRIANGLE, moved), [-5])
        self.assertEqual(self.told_of(moved, TRIANGLE), [-5])
        self.assertEqual(self.told_of(TRIANGLE, SQUARE), [-5])
        self.assertEqual(self.told_of(SQUARE, TRIANGLE), [-5])
        aside = surface([(1, 0, 0), (11, 0, 10), (1, 10, 20)], [(1, 2, 3)])
        self.assertEqual(self.told_of(TRIANGLE, aside), [-5])
        up = surface([(0, 1, 0), (10, 1, 10), (0, 11, 20)], [(1, 2, 3)])
        self.assertEqual(self.told_of(TRIANGLE, up), [-5])

    def test_one_more_point_on_the_same_outline_is_refused(self):
        more = surface([(0, 0, 0), (5, 0, 5), (10, 0, 10), (0, 10, 20)], [(1, 2, 4), (2, 3, 4)])
        self.assertEqual(self.told_of(TRIANGLE, more), [-5])
        self.assertEqual(self.told_of(more, TRIANGLE), [-5])
        self.assertEqual(self.told_of(more, more), [0, 0])

    def test_the_same_places_in_another_ring_are_refused(self):
        # The same five points, once with a dent at the top, once with one to the right.
        places = [(0, 0, 1), (20, 0, 2), (20, 20, 3), (0, 20, 4), (12, 12, 5)]
        top = surface(places, [(1, 2, 5), (2, 3, 5), (4, 1, 5)])
        right = surface(places, [(1, 2, 5), (3, 4, 5), (4, 1, 5)])
        self.assertEqual(self.told_of(top, right), [-5])
        self.assertEqual(self.told_of(top, top), [0, 0])

    def test_order_of_refusals(self):
        answers = ask(load(1, TRIANGLE), load(2, SQUARE), call("net", 1, 5), call("net", 3, 5), call("net", 1, 3),
                      call("net", 3, 1), call("net", 1, 2), call("net", 2, 1), call("net", 0, 2))
        self.assertEqual(answers[2:], [[-1], [-1], [-2], [-2], [-5], [-5], [-1]])

    def test_refusals(self):
        self.needs_slots("net", [1, 2], 2)


class Slope(CallCase):
    def test_rises(self):
        self.assertEqual(self.told(TRIANGLE, "slope", 1, 1), [0, 1, 1, 2, 1])

    def test_each_face(self):
        self.assertEqual(self.told(SQUARE, "slope", 1, 1), [0, 3, 5, 7, 5])
        self.assertEqual(self.told(SQUARE, "slope", 1, 2), [0, 27, 10, -7, 10])

    def test_level_faces_and_signs(self):
        self.assertEqual(self.told(PYRAMID, "slope", 1, 1), [0, 0, 1, 3, 5])
        self.assertEqual(self.told(PYRAMID, "slope", 1, 2), [0, -3, 5, 0, 1])
        self.assertEqual(self.told(PYRAMID, "slope", 1, 3), [0, 0, 1, -3, 5])
        self.assertEqual(self.told(PYRAMID, "slope", 1, 4), [0, 3, 5, 0, 1])
        level = surface([(0, 0, 4), (7, 0, 4), (0, 7, 4)], [(1, 2, 3)])
        self.assertEqual(self.told(level, "slope", 1, 1), [0, 0, 1, 0, 1])

    def test_slanting_faces(self):
        # The plane through these is x / 3 - y / 7 + 5.
        text = surface([(21, 7, 11), (42, 49, 12), (3, 14, 4)], [(1, 2, 3)])
        self.assertEqual(self.told(text, "slope", 1, 1), [0, 1, 3, -1, 7])
        for told in ("2 3 1", "3 1 2", "3 2 1"):
            self.assertEqual(self.told(text.replace("1 2 3", told), "slope", 1, 1), [0, 1, 3, -1, 7])

    def test_no_such_face(self):
        self.assertEqual(self.told(TRIANGLE, "slope", 1, 2), [-4])
        self.assertEqual(self.told(TRIANGLE, "slope", 1, 200), [-4])
        self.assertEqual(self.told(SQUARE, "slope", 1, 3), [-4])
        self.assertEqual(self.told(sixty_faces(), "slope", 1, 60)[0], 0)
        self.assertEqual(self.told(sixty_faces(), "slope", 1, 61), [-4])

    def test_refusals(self):
        self.needs_slots("slope", [1, 1], 1)
        self.refuses_outside("slope", [1, 1], 1, 1, 200)
        self.assertEqual(ask(call("slope", 1, 0), call("slope", 1, 201), call("slope", 1, 200)), [[-1], [-1], [-2]])


class Steep(CallCase):
    def test_just_as_steep_is_not_more(self):
        # It rises by 5 for 1 step in its steepest direction: 3 to the right and 4 away.
        text = surface([(0, 0, 0), (10, 0, 30), (0, 10, 40)], [(1, 2, 3)])
        self.assertEqual(self.told(text, "steep", 1, 4, 1), [0, 1])
        self.assertEqual(self.told(text, "steep", 1, 5, 1), [0])
        self.assertEqual(self.told(text, "steep", 1, 6, 1), [0])
        self.assertEqual(self.told(text, "steep", 1, 499, 100), [0, 1])
        self.assertEqual(self.told(text, "steep", 1, 500, 100), [0])
        self.assertEqual(self.told(text, "steep", 1, 501, 100), [0])

    def test_falling_faces_are_as_steep(self):
        text = surface([(0, 0, 0), (10, 0, -30), (0, 10, 40)], [(1, 2, 3)])
        self.assertEqual(self.told(text, "steep", 1, 999, 200), [0, 1])
        self.assertEqual(self.told(text, "steep", 1, 1000, 200), [0])

    def test_rises_that_are_no_fraction(self):
        # The square of the rise is 2, between those of 1000 / 708 and 1000 / 707.
        text = surface([(0, 0, 0), (10, 0, 10), (0, 10, 10)], [(1, 2, 3)])
        self.assertEqual(self.told(text, "steep", 1, 1000, 708), [0, 1])
        self.assertEqual(self.told(text, "steep", 1, 1000, 707), [0])
        self.assertEqual(self.told(text, "steep", 1, 7, 5), [0, 1])
        self.assertEqual(self.told(text, "steep", 1, 17, 12), [0])

    def test_0_is_any_rise(self):
        text = surface([(0, 0, 4), (10, 0, 4), (10, 10, 4), (0, 10, 5)], [(1, 2, 3), (1, 3, 4)])
        for d in (1, 1000):
            self.assertEqual(self.told(text, "steep", 1, 0, d), [0, 2])

    def test_faces_rising(self):
        self.assertEqual(self.told(SQUARE, "steep", 1, 0, 1), [0, 1, 2])
        # Squares of the rises: 58 / 25 and 778 / 100.
        self.assertEqual(self.told(SQUARE, "steep", 1, 2, 1), [0, 2])
        self.assertEqual(self.told(SQUARE, "steep", 1, 3, 2), [0, 1, 2])
        self.assertEqual(self.told(SQUARE, "steep", 1, 3, 1), [0])
        self.assertEqual(self.told(PYRAMID, "steep", 1, 599, 1000), [0, 1, 2, 3, 4])
        self.assertEqual(self.told(PYRAMID, "steep", 1, 3, 5), [0])

    def test_the_ends(self):
        cliff = surface([(0, 0, -10000), (1, 0, 10000), (0, 1, -10000)], [(1, 2, 3)])
        self.assertEqual(self.told(cliff, "steep", 1, 1000, 1), [0, 1])
        slight = surface([(0, 0, 0), (1000, 0, 1), (0, 1000, 0)], [(1, 2, 3)])
        self.assertEqual(self.told(slight, "steep", 1, 1, 1000), [0])
        slight = surface([(0, 0, 0), (999, 0, 1), (0, 1000, 0)], [(1, 2, 3)])
        self.assertEqual(self.told(slight, "steep", 1, 1, 1000), [0, 1])

    def test_refusals(self):
        self.needs_slots("steep", [1, 1, 1], 1)
        self.refuses_outside("steep", [1, 1, 1], 1, 0, 1000)
        self.refuses_outside("steep", [1, 1, 1], 2, 1, 1000)
        self.assertEqual(ask(call("steep", 1, -1, 1), call("steep", 1, 0, 0), call("steep", 1, 0, 1)),
                         [[-1], [-1], [-2]])


if __name__ == "__main__":
    unittest.main()
