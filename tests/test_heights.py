"""Promises 3, 6 and 11: height, cells and profile."""

import unittest

from tests.helper import HUGE, PYRAMID, SQUARE, TRIANGLE, CallCase, ask, call, load, surface


def flat(z, far=10000):
    """A square from 0 to far, at one height."""
    return surface([(0, 0, z), (far, 0, z), (far, far, z), (0, far, z)], [(1, 2, 3), (1, 3, 4)])


class Height(CallCase):
    def assert_height(self, text, x, y, d, *told):
        self.assertEqual(self.told(text, "height", 1, x, y, d), [0, *told], (x, y, d))

    def test_within(self):
        self.assert_height(TRIANGLE, 3, 4, 1, 1, 11, 1)
        self.assert_height(TRIANGLE, 1, 1, 2, 1, 3, 2)
        self.assert_height(TRIANGLE, 10, 20, 7, 1, 50, 7)
        self.assert_height(TRIANGLE, 1, 1, 1000, 1, 3, 1000)

    def test_lowest_terms(self):
        self.assert_height(TRIANGLE, 20, 20, 10, 1, 6, 1)
        self.assert_height(TRIANGLE, 15, 0, 10, 1, 3, 2)
        self.assert_height(TRIANGLE, 4, 0, 6, 1, 2, 3)

    def test_0_is_0_and_1(self):
        self.assert_height(TRIANGLE, 0, 0, 1, 1, 0, 1)
        self.assert_height(TRIANGLE, 0, 0, 1000, 1, 0, 1)
        self.assert_height(flat(0), 5, 7, 3, 1, 0, 1)

    def test_at_points(self):
        self.assert_height(TRIANGLE, 10, 0, 1, 1, 10, 1)
        self.assert_height(TRIANGLE, 0, 10, 1, 1, 20, 1)
        self.assert_height(TRIANGLE, 0, 10000, 1000, 1, 20, 1)
        for x, y, z in ((0, 0, 0), (10, 0, 6), (10, 10, 20), (0, 10, -7)):
            self.assert_height(SQUARE, x, y, 1, 1, z, 1)
        self.assert_height(PYRAMID, 50, 50, 1, 1, 30, 1)

    def test_on_edges(self):
        self.assert_height(TRIANGLE, 5, 0, 1, 1, 5, 1)
        self.assert_height(TRIANGLE, 0, 5, 1, 1, 10, 1)
        self.assert_height(TRIANGLE, 5, 5, 1, 1, 15, 1)
        self.assert_height(TRIANGLE, 19, 1, 2, 1, 21, 2)
        self.assert_height(SQUARE, 5, 5, 1, 1, 10, 1)
        self.assert_height(SQUARE, 7, 7, 3, 1, 14, 3)

    def test_both_faces_of_a_square(self):
        # By its first face 6 x / 10 + 14 y / 10, by its second 27 x / 10 - 7 y / 10.
        self.assert_height(SQUARE, 6, 2, 1, 1, 32, 5)
        self.assert_height(SQUARE, 2, 6, 1, 1, 6, 5)
        self.assert_height(SQUARE, 1, 9, 1, 1, -18, 5)
        self.assert_height(SQUARE, 1, 12, 2, 1, -57, 20)

    def test_outside(self):
        for x, y, d in ((6, 5, 1), (5, 6, 1), (11, 0, 1), (0, 11, 1), (10001, 0, 1000), (0, 10001, 1000),
                        (5001, 5000, 1000), (5000, 5001, 1000), (10000000, 10000000, 1), (10000000, 0, 1),
                        (0, 10000000, 1)):
            self.assert_height(TRIANGLE, x, y, d, 0)
        inner = surface([(10, 10, 5), (20, 10, 5), (10, 20, 5)], [(1, 2, 3)])
        for x, y, d in ((9, 12, 1), (12, 9, 1), (9999, 12000, 1000), (12000, 9999, 1000), (0, 0, 1), (16, 15, 1)):
            self.assert_height(inner, x, y, d, 0)
        self.assert_height(inner, 10000, 12000, 1000, 1, 5, 1)

    def test_just_outside_each_edge(self):
        # Twice the area of the place with the edge from 1 to 2 is -1; the edge is each of the face's three.
        for points, x, y in (
            ([(0, 1, 5), (2, 0, 5), (1, 3, 5)], 1, 0),
            ([(0, 0, 5), (3, 2, 5), (0, 9, 5)], 2, 1),
        ):
            for face in ((1, 2, 3), (2, 3, 1), (3, 1, 2)):
                text = surface(points, [face])
                self.assert_height(text, x, y, 1, 0)
                self.assert_height(text, x, y + 1, 1, 1, 5, 1)

    def test_within_the_outline_alone(self):
        dented = surface([(0, 0, 0), (50, 20, 0), (100, 0, 0), (50, 90, 0)], [(1, 2, 4), (2, 3, 4)])
        self.assert_height(dented, 50, 19, 1, 0)
        self.assert_height(dented, 50, 20, 1, 1, 0, 1)
        self.assert_height(dented, 40, 16, 1, 1, 0, 1)
        self.assert_height(dented, 40, 15, 1, 0)

    def test_heights_below_0(self):
        text = surface([(0, 0, -1), (3, 0, -2), (0, 3, 1)], [(1, 2, 3)])
        self.assert_height(text, 1, 0, 1, 1, -4, 3)
        self.assert_height(text, 0, 1, 1, 1, -1, 3)
        self.assert_height(text, 0, 3, 2, 1, 0, 1)
        self.assert_height(text, 2, 0, 7, 1, -23, 21)

    def test_the_largest(self):
        text = surface([(0, 0, -10000), (10000, 0, 10000), (10000, 10000, 9999), (0, 10000, -9999)],
                       [(1, 2, 3), (1, 3, 4)])
        self.assert_height(text, 10000, 0, 1, 1, 10000, 1)
        self.assert_height(text, 10000000, 10000000, 1000, 1, 9999, 1)
        self.assert_height(text, 9999999, 1, 1000, 1, 99999979999, 10000000)
        self.assert_height(text, 10000, 10001, 1, 0)

    def test_refusals(self):
        good = [1, 5, 5, 1]
        self.needs_slots("height", good, 1)
        self.refuses_outside("height", good, 1, 0, 10000000)
        self.refuses_outside("height", good, 2, 0, 10000000)
        self.refuses_outside("height", good, 3, 1, 1000)
        self.assertEqual(ask(call("height", 1, -1, 0, 1), call("height", 1, 0, 0, 0), call("height", 1, 0, 0, 1)),
                         [[-1], [-1], [-2]])


class Cells(CallCase):
    def told_of(self, first, second, g):
        answers = ask(load(1, first), load(2, second), call("cells", 1, 2, g))
        self.assertEqual([answer[:2] for answer in answers[:2]], [[0, 0], [0, 0]])
        return answers[2]

    def test_flat_ones(self):
        self.assertEqual(self.told_of(flat(5), flat(8), 5000), [0, 4, 0, 12])
        self.assertEqual(self.told_of(flat(8), flat(5), 5000), [0, 4, 12, 0])
        self.assertEqual(self.told_of(flat(5), flat(5), 5000), [0, 4, 0, 0])
        self.assertEqual(self.told_of(flat(-5), flat(5), 500), [0, 400, 0, 4000])

    def test_what_is_left_over_is_not_looked_at(self):
        self.assertEqual(self.told_of(flat(0), flat(1), 3000), [0, 9, 0, 9])
        self.assertEqual(self.told_of(flat(0), flat(1), 3334), [0, 4, 0, 4])
        self.assertEqual(self.told_of(flat(0), flat(1), 3332), [0, 9, 0, 9])
        self.assertEqual(self.told_of(flat(0), flat(1), 4998), [0, 4, 0, 4])
        self.assertEqual(self.told_of(flat(0), flat(1), 502), [0, 361, 0, 361])

    def test_middles_within_both(self):
        self.assertEqual(self.told_of(flat(0), flat(1, 3000), 1000), [0, 9, 0, 9])
        self.assertEqual(self.told_of(flat(0, 3000), flat(1), 1000), [0, 9, 0, 9])
        # A middle on an edge, and just outside.
        self.assertEqual(self.told_of(flat(0), flat(1, 2500), 1000), [0, 9, 0, 9])
        self.assertEqual(self.told_of(flat(0), flat(1, 2499), 1000), [0, 4, 0, 4])
        apart = surface([(5000, 5000, 1), (9000, 5000, 1), (9000, 9000, 1)], [(1, 2, 3)])
        self.assertEqual(self.told_of(flat(0, 3000), apart, 1000), [0, 0, 0, 0])
        self.assertEqual(self.told_of(TRIANGLE, TRIANGLE, 500), [0, 0, 0, 0])

    def test_x_and_y_are_told_apart(self):
        wide = surface([(0, 0, 1), (10000, 0, 1), (10000, 1000, 1), (0, 1000, 1)], [(1, 2, 3), (1, 3, 4)])
        tall = surface([(0, 0, 0), (2000, 0, 0), (2000, 10000, 0), (0, 10000, 0)], [(1, 2, 3), (1, 3, 4)])
        self.assertEqual(self.told_of(wide, tall, 1000), [0, 2, 2, 0])
        self.assertEqual(self.told_of(wide, wide, 1000), [0, 10, 0, 0])
        self.assertEqual(self.told_of(tall, tall, 1000), [0, 20, 0, 0])

    def test_less_and_more_are_summed_apart(self):
        # It rises by 10 from x = 0 to x = 10000: 2.5 and 7.5 at the middles.
        rising = surface([(0, 0, 0), (10000, 0, 10), (10000, 10000, 10), (0, 10000, 0)], [(1, 2, 3), (1, 3, 4)])
        self.assertEqual(self.told_of(flat(5), rising, 5000), [0, 4, 6, 4])
        self.assertEqual(self.told_of(rising, flat(5), 5000), [0, 4, 4, 6])

    def test_heights_below_0_are_rounded_down(self):
        # -2.5 and -7.5 are taken as -3 and -8.
        falling = surface([(0, 0, 0), (10000, 0, -10), (10000, 10000, -10), (0, 10000, 0)], [(1, 2, 3), (1, 3, 4)])
        self.assertEqual(self.told_of(flat(0), falling, 5000), [0, 4, 22, 0])
        self.assertEqual(self.told_of(falling, flat(0), 5000), [0, 4, 0, 22])
        # Both are rounded before they are held against one another: 0.25 and -0.25 are 1 apart.
        slight = surface([(0, 0, 0), (10000, 0, 1), (10000, 10000, 1), (0, 10000, 0)], [(1, 2, 3), (1, 3, 4)])
        against = surface([(0, 0, 0), (10000, 0, -1), (10000, 10000, -1), (0, 10000, 0)], [(1, 2, 3), (1, 3, 4)])
        self.assertEqual(self.told_of(slight, against, 5000), [0, 4, 4, 0])
        self.assertEqual(self.told_of(slight, flat(0), 5000), [0, 4, 0, 0])

    def test_a_whole_height_stays(self):
        self.assertEqual(self.told_of(flat(-3), flat(0), 5000), [0, 4, 0, 12])

    def test_a_surface_with_itself(self):
        self.assertEqual(ask(load(3, flat(7)), call("cells", 3, 3, 1000))[1], [0, 100, 0, 0])

    def test_an_odd_side_is_refused(self):
        for g in (501, 999, 4999):
            self.assertEqual(self.told_of(flat(0), flat(1), g), [-6])
        for g in (500, 998, 5000):
            self.assertEqual(self.told_of(flat(0), flat(1), g)[0], 0)

    def test_refusals(self):
        good = [1, 2, 1000]
        self.needs_slots("cells", good, 2)
        self.refuses_outside("cells", good, 2, 500, 5000)

    def test_order_of_refusals(self):
        answers = ask(load(1, flat(0)), call("cells", 1, 2, 499), call("cells", 1, 2, 5001), call("cells", 1, 2, 501),
                      call("cells", 2, 1, 501), call("cells", 1, 1, 501), call("cells", 5, 1, 501))
        self.assertEqual(answers[1:], [[-1], [-1], [-2], [-2], [-6], [-1]])


class Profile(CallCase):
    def assert_profile(self, text, arguments, *told):
        self.assertEqual(self.told(text, "profile", 1, *arguments), [0, *told], arguments)

    def test_whole_places(self):
        self.assert_profile(TRIANGLE, (0, 0, 10, 0, 2), 1, 0, 1, 1, 5, 1, 1, 10, 1)
        self.assert_profile(TRIANGLE, (10, 0, 0, 0, 2), 1, 10, 1, 1, 5, 1, 1, 0, 1)
        self.assert_profile(TRIANGLE, (0, 0, 0, 10, 2), 1, 0, 1, 1, 10, 1, 1, 20, 1)
        self.assert_profile(TRIANGLE, (10, 0, 0, 10, 1), 1, 10, 1, 1, 20, 1)

    def test_places_between_whole_numbers(self):
        self.assert_profile(TRIANGLE, (0, 0, 10, 0, 3), 1, 0, 1, 1, 10, 3, 1, 20, 3, 1, 10, 1)
        self.assert_profile(TRIANGLE, (1, 2, 2, 4, 4), 1, 5, 1, 1, 25, 4, 1, 15, 2, 1, 35, 4, 1, 10, 1)
        self.assert_profile(TRIANGLE, (10, 0, 0, 10, 3), 1, 10, 1, 1, 40, 3, 1, 50, 3, 1, 20, 1)

    def test_places_outside(self):
        self.assert_profile(TRIANGLE, (5, 5, 15, 15, 2), 1, 15, 1, 0, 0)
        self.assert_profile(TRIANGLE, (15, 15, 5, 5, 2), 0, 0, 1, 15, 1)
        self.assert_profile(TRIANGLE, (0, 0, 12, 0, 6), 1, 0, 1, 1, 2, 1, 1, 4, 1, 1, 6, 1, 1, 8, 1, 1, 10, 1, 0)
        self.assert_profile(TRIANGLE, (5000, 5000, 10000, 10000, 2), 0, 0, 0)
        dented = surface([(0, 0, 3), (50, 20, 3), (100, 0, 3), (50, 90, 3)], [(1, 2, 4), (2, 3, 4)])
        self.assert_profile(dented, (0, 0, 100, 0, 2), 1, 3, 1, 0, 1, 3, 1)

    def test_across_faces(self):
        self.assert_profile(SQUARE, (10, 0, 0, 10, 4), 1, 6, 1, 1, 8, 1, 1, 10, 1, 1, 3, 2, 1, -7, 1)
        self.assert_profile(PYRAMID, (0, 50, 100, 50, 4), 1, 0, 1, 1, 15, 1, 1, 30, 1, 1, 15, 1, 1, 0, 1)

    def test_heights_below_0(self):
        text = surface([(0, 0, -1), (3, 0, -2), (0, 3, 1)], [(1, 2, 3)])
        self.assert_profile(text, (0, 0, 3, 0, 2), 1, -1, 1, 1, -3, 2, 1, -2, 1)
        self.assert_profile(text, (0, 0, 0, 3, 4), 1, -1, 1, 1, -1, 2, 1, 0, 1, 1, 1, 2, 1, 1, 1)

    def test_both_ends_the_same(self):
        self.assert_profile(TRIANGLE, (3, 4, 3, 4, 2), 1, 11, 1, 1, 11, 1, 1, 11, 1)
        self.assert_profile(TRIANGLE, (6, 6, 6, 6, 1), 0, 0)

    def test_many_steps(self):
        told = [0]
        for at in range(51):
            told += [1, at, 5] if at % 5 else [1, at // 5, 1]
        self.assertEqual(self.told(TRIANGLE, "profile", 1, 0, 0, 10, 0, 50), told)

    def test_refusals(self):
        good = [1, 0, 0, 10, 10, 5]
        self.needs_slots("profile", good, 1)
        for position in (1, 2, 3, 4):
            self.refuses_outside("profile", good, position, 0, 10000)
        self.refuses_outside("profile", good, 5, 1, 50)
        self.assertEqual(ask(call("profile", 1, 0, 0, 0, HUGE, 1), call("profile", 1, 0, 0, 0, 0, 1)), [[-1], [-2]])


if __name__ == "__main__":
    unittest.main()
