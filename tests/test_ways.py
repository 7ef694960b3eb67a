"""Promises 12 and 13: down and basins."""

import unittest

from tests.helper import PYRAMID, SQUARE, TRIANGLE, CallCase, ask, call, grid, load, sixty_faces, surface

# From point 1 the drops are 12790 and 12791; the squares of the steepness differ by so little that they
# are the same as floats.
NEARLY_EQUAL = [(0, 0, 10000), (8820, 9261, -2790), (8363, 9677, -2791)]


class Down(CallCase):
    def test_edges_are_taken_either_way(self):
        # The edges lead from 1 to 2, from 2 to 3 and from 3 to 1.
        self.assertEqual(self.told(TRIANGLE, "down", 1, 2), [0, 2, 1])
        self.assertEqual(self.told(TRIANGLE, "down", 1, 3), [0, 3, 1])
        for told in ("1 2 3", "2 3 1", "3 2 1"):
            text = TRIANGLE.replace("face 1 2 3", "face " + told).replace("10 0 10", "10 0 -1")
            self.assertEqual(self.told(text, "down", 1, 1), [0, 1, 2])

    def test_a_point_with_no_lower_neighbour(self):
        self.assertEqual(self.told(TRIANGLE, "down", 1, 1), [0, 1])
        self.assertEqual(self.told(SQUARE, "down", 1, 4), [0, 4])
        self.assertEqual(self.told(PYRAMID, "down", 1, 3), [0, 3])

    def test_over_several_points(self):
        self.assertEqual(self.told(SQUARE, "down", 1, 2), [0, 2, 1, 4])
        text = grid(4, 2, 10, lambda x, y: 10 * x + 100 * y)
        self.assertEqual(self.told(text, "down", 1, 8), [0, 8, 4, 3, 2, 1])
        self.assertEqual(self.told(text, "down", 1, 3), [0, 3, 2, 1])

    def test_neighbours_alone_are_gone_to(self):
        # Point 4 is lower than 1, but no edge joins 2 and 4.
        self.assertEqual(self.told(SQUARE.replace("0 0 0", "0 0 5"), "down", 1, 2), [0, 2, 1, 4])
        text = surface([(0, 0, 5), (10, 0, 6), (10, 10, 20), (0, 10, -7)], [(1, 2, 4), (2, 3, 4)])
        self.assertEqual(self.told(text, "down", 1, 2), [0, 2, 4])

    def test_the_steepest_is_neither_the_lowest_nor_the_nearest(self):
        # Steepness 2 over 5, 3 over 10, 1 over 2.
        points = [(50, 50, 100), (55, 50, 98), (50, 60, 97), (48, 50, 99), (50, 10, 90)]
        faces = [(1, 2, 3), (1, 3, 4), (1, 4, 5), (1, 5, 2)]
        self.assertEqual(self.told(surface(points, faces), "down", 1, 1), [0, 1, 4, 5])
        points[1] = (55, 50, 97)
        self.assertEqual(self.told(surface(points, faces), "down", 1, 1), [0, 1, 2, 5])
        points[2] = (50, 60, 93)
        self.assertEqual(self.told(surface(points, faces), "down", 1, 1), [0, 1, 3])

    def test_of_equal_steepness_the_least_number(self):
        self.assertEqual(self.told(PYRAMID, "down", 1, 5), [0, 5, 1])
        corners = [(0, 0), (100, 0), (100, 100), (0, 100)]
        for turn in range(4):
            placed = corners[turn:] + corners[:turn]
            points = [(50, 50, 30)] + [(x, y, 0) for x, y in placed]
            faces = [(2, 3, 1), (3, 4, 1), (4, 5, 1), (5, 2, 1)]
            self.assertEqual(self.told(surface(points, faces), "down", 1, 1), [0, 1, 2])
            points[1] = (*placed[0], 1)
            self.assertEqual(self.told(surface(points, faces), "down", 1, 1), [0, 1, 3])
            points[2] = (*placed[1], 40)
            self.assertEqual(self.told(surface(points, faces), "down", 1, 1), [0, 1, 4])

    def test_equal_steepness_over_other_lengths(self):
        # 6 over 10 to the right, 9 over 15 away: both are 36 / 100.
        far_first = surface([(0, 0, 9), (0, 15, 0), (10, 0, 3)], [(1, 3, 2)])
        self.assertEqual(self.told(far_first, "down", 1, 1), [0, 1, 2])
        near_first = surface([(0, 0, 9), (10, 0, 3), (0, 15, 0)], [(1, 2, 3)])
        self.assertEqual(self.told(near_first, "down", 1, 1), [0, 1, 2, 3])
        # The same with lengths that are no whole numbers: 1 over the root of 2, 2 over that of 8.
        text = surface([(5, 5, 9), (7, 7, 7), (4, 6, 8)], [(1, 2, 3)])
        self.assertEqual(self.told(text, "down", 1, 1), [0, 1, 2])

    def test_squares_that_whole_parts_do_not_tell_apart(self):
        # 1 / 100 and 4 / 100 are both less than 1.
        text = surface([(0, 0, 9), (10, 0, 8), (0, 10, 7)], [(1, 2, 3)])
        self.assertEqual(self.told(text, "down", 1, 1), [0, 1, 3])
        # 16 / 9 and 25 / 16 have the same whole part; 25 / 16 has the greater drop.
        text = surface([(0, 0, 9), (4, 0, 4), (0, 3, 5)], [(1, 2, 3)])
        self.assertEqual(self.told(text, "down", 1, 1), [0, 1, 3, 2])

    def test_squares_that_are_nearly_equal(self):
        first, second, third = NEARLY_EQUAL
        a, b = 8820 ** 2 + 9261 ** 2, 8363 ** 2 + 9677 ** 2
        self.assertEqual(12791 ** 2 * a - 12790 ** 2 * b, 1)
        self.assertEqual(12791 ** 2 / b, 12790 ** 2 / a)
        self.assertEqual(self.told(surface([first, second, third], [(1, 2, 3)]), "down", 1, 1), [0, 1, 3])
        self.assertEqual(self.told(surface([first, third, second], [(1, 2, 3)]), "down", 1, 1), [0, 1, 2])

    def test_neighbours_of_the_same_height(self):
        level = surface([(0, 0, 5), (10, 0, 5), (0, 10, 5)], [(1, 2, 3)])
        for number in (1, 2, 3):
            self.assertEqual(self.told(level, "down", 1, number), [0, number])
        # Water does not go over a level edge, though it would fall beyond.
        text = surface([(0, 0, 5), (10, 0, 5), (5, 5, 5), (15, 5, 0)], [(1, 2, 3), (2, 4, 3)])
        self.assertEqual(self.told(text, "down", 1, 1), [0, 1])
        self.assertEqual(self.told(text, "down", 1, 2), [0, 2, 4])

    def test_greatest_drops(self):
        text = surface([(0, 0, 10000), (10000, 10000, -10000), (0, 1, 9999)], [(1, 2, 3)])
        # 20000 squared over 2 times 10000 squared is 2.
        self.assertEqual(self.told(text, "down", 1, 1), [0, 1, 2])
        text = surface([(0, 0, 10000), (0, 1, -10000), (1, 0, -9999)], [(1, 2, 3)])
        self.assertEqual(self.told(text, "down", 1, 1), [0, 1, 2])

    def test_a_way_through_forty_points(self):
        points = [(x, x * x, 400 - 10 * x) for x in range(40)]
        points[0] = (0, 0, 401)
        # A fan round point 1; from each of the others the next one is the steepest as point 1 is highest.
        faces = [(1, n, n + 1) for n in range(2, 40)]
        way = self.told(surface(points, faces), "down", 1, 2)
        self.assertEqual(way, [0] + list(range(2, 41)))

    def test_refusals(self):
        self.needs_slots("down", [1, 1], 1)
        self.refuses_outside("down", [1, 1], 1, 1, 200)
        for number in (4, 5, 199, 200):
            self.assert_refused(-3, TRIANGLE, "down", 1, number)
        self.assertEqual(self.told(TRIANGLE, "down", 1, 3), [0, 3, 1])
        self.assert_refused(-3, sixty_faces(), "down", 1, 34)
        self.assertEqual(self.told(sixty_faces(), "down", 1, 33)[:2], [0, 33])
        self.assertEqual(ask(call("down", 1, 201), call("down", 1, 200), load(1, TRIANGLE), call("down", 5, 200)),
                         [[-1], [-2], [0, 0, 3, 1], [-1]])


class Basins(CallCase):
    def test_small_surfaces(self):
        self.assertEqual(self.told(TRIANGLE, "basins", 1), [0, 1, 1, 1])
        self.assertEqual(self.told(SQUARE, "basins", 1), [0, 4, 4, 4, 4])

    def test_each_its_own(self):
        self.assertEqual(self.told(PYRAMID, "basins", 1), [0, 1, 2, 3, 4, 1])
        level = grid(3, 3, 10, lambda x, y: -4)
        self.assertEqual(self.told(level, "basins", 1), [0, 1, 2, 3, 4, 5, 6, 7, 8, 9])

    def test_two_basins(self):
        # A ridge in the middle column; from it the steepest is to the left or right, of equal ones the left.
        text = grid(5, 2, 10, lambda x, y: 20 - 10 * abs(x - 2) + y)
        self.assertEqual(self.told(text, "basins", 1), [0, 1, 1, 1, 5, 5, 1, 1, 1, 5, 5])

    def test_steepness_by_squares(self):
        # Point 4 lies between 2 and 3, so that no edge joins these.
        text = surface(NEARLY_EQUAL + [(9000, 9900, 10000)], [(1, 2, 4), (1, 4, 3)])
        self.assertEqual(self.told(text, "basins", 1), [0, 3, 2, 3, 2])

    def test_the_last_of_each_way_down(self):
        for text, count in ((SQUARE, 4), (sixty_faces(), 33), (grid(8, 5, 7, lambda x, y: x * y % 7 - y), 40)):
            told = ask(load(1, text), call("basins", 1), *[call("down", 1, n) for n in range(1, count + 1)])
            self.assertEqual(told[1], [0] + [way[-1] for way in told[2:]])
            for number, way in enumerate(told[2:], start=1):
                self.assertEqual(way[:2], [0, number])

    def test_refusals(self):
        self.needs_slots("basins", [1], 1)


if __name__ == "__main__":
    unittest.main()
