"""Promise 10: contour."""

import unittest

from tests.helper import HUGE, PYRAMID, SQUARE, TRIANGLE, CallCase, ask, call, grid, load, surface


def peaks(columns, rows, *numbers):
    """A grid with steps of 10, of height 10 at the points with these numbers, else 0."""
    return grid(columns, rows, 10, lambda x, y: 10 if y * columns + x + 1 in numbers else 0)


def shuffled(text):
    """The same surface with its faces in the opposite order and each beginning elsewhere."""
    lines = text.splitlines()
    points = [line for line in lines if line.startswith("point")]
    faces = [line.split() for line in lines if line.startswith("face")]
    turned = [f"face {c} {a} {b}" for word, a, b, c in reversed(faces)]
    return "\n".join(points + turned)


class Contour(CallCase):
    def assert_contour(self, text, h, *lines):
        """Each line is a ring (1) or open (0), then the fractions of its places, four numbers each."""
        told = [0, len(lines)]
        for ring, *places in lines:
            told += [ring, len(places)]
            for place in places:
                told += place
        self.assertEqual(self.told(text, "contour", 1, h), told)
        self.assertEqual(self.told(shuffled(text), "contour", 1, h), told)

    def test_an_open_line(self):
        self.assert_contour(TRIANGLE, 5, [0, (5, 1, 0, 1), (0, 1, 5, 2)])
        self.assert_contour(TRIANGLE, 12, [0, (0, 1, 6, 1), (8, 1, 2, 1)])

    def test_drops_of_1(self):
        text = surface([(2, 3, 1), (8, 3, 0), (2, 9, 0)], [(1, 2, 3)])
        self.assert_contour(text, 1, [0, (2, 1, 3, 1), (2, 1, 3, 1)])
        text = surface([(2, 3, 0), (8, 3, 1), (2, 9, 1)], [(1, 2, 3)])
        self.assert_contour(text, 1, [0, (8, 1, 3, 1), (2, 1, 9, 1)])

    def test_no_line(self):
        for h in (-10000, -1, 0, 21, 10000):
            self.assert_contour(TRIANGLE, h)

    def test_a_level_that_is_just_a_points_height(self):
        self.assert_contour(TRIANGLE, 10, [0, (10, 1, 0, 1), (0, 1, 5, 1)])
        self.assert_contour(TRIANGLE, 20, [0, (0, 1, 10, 1), (0, 1, 10, 1)])
        self.assert_contour(PYRAMID, 0)
        self.assert_contour(PYRAMID, 30, [1, (50, 1, 50, 1), (50, 1, 50, 1), (50, 1, 50, 1), (50, 1, 50, 1)])
        self.assert_contour(PYRAMID, 31)

    def test_an_open_line_through_several_faces(self):
        self.assert_contour(SQUARE, 3, [0, (5, 1, 0, 1), (3, 2, 3, 2), (100, 27, 10, 1)])
        self.assert_contour(SQUARE, 0, [0, (0, 1, 0, 1), (70, 27, 10, 1)])
        self.assert_contour(SQUARE, -3, [0, (0, 1, 30, 7), (40, 27, 10, 1)])

    def test_an_open_line_begins_with_its_lesser_end(self):
        # The ends are (1, 4) and (2, 3): they have other numbers than in the square above.
        text = surface([(0, 10, -7), (0, 0, 0), (10, 0, 6), (10, 10, 20)], [(2, 3, 4), (2, 4, 1)])
        self.assert_contour(text, 3, [0, (100, 27, 10, 1), (3, 2, 3, 2), (5, 1, 0, 1)])
        # The ends have the same lesser point, and are told by the greater one.
        text = surface([(0, 0, 0), (0, 10, 20), (10, 0, 10)], [(1, 2, 3)])
        self.assert_contour(text, 5, [0, (0, 1, 5, 2), (5, 1, 0, 1)])

    def test_a_ring(self):
        self.assert_contour(PYRAMID, 15, [1, (25, 1, 25, 1), (75, 1, 25, 1), (75, 1, 75, 1), (25, 1, 75, 1)])
        self.assert_contour(PYRAMID, 1, [1, (5, 3, 5, 3), (295, 3, 5, 3), (295, 3, 295, 3), (5, 3, 295, 3)])

    def test_a_ring_goes_on_to_the_lesser_neighbour(self):
        clockwise = surface([(0, 0, 0), (0, 100, 0), (100, 100, 0), (100, 0, 0), (50, 50, 30)],
                            [(1, 5, 2), (2, 5, 3), (3, 5, 4), (4, 5, 1)])
        self.assert_contour(clockwise, 15, [1, (25, 1, 25, 1), (25, 1, 75, 1), (75, 1, 75, 1), (75, 1, 25, 1)])
        top_first = surface([(50, 50, 30), (100, 100, 0), (0, 0, 0), (0, 100, 0), (100, 0, 0)],
                            [(3, 5, 1), (5, 2, 1), (2, 4, 1), (4, 3, 1)])
        self.assert_contour(top_first, 15, [1, (75, 1, 75, 1), (25, 1, 75, 1), (25, 1, 25, 1), (75, 1, 25, 1)])

    def test_a_ring_round_a_hollow(self):
        hollow = PYRAMID.replace("50 50 30", "50 50 -30")
        self.assert_contour(hollow, -15, [1, (25, 1, 25, 1), (75, 1, 25, 1), (75, 1, 75, 1), (25, 1, 75, 1)])
        self.assert_contour(hollow, -29, [1, (145, 3, 145, 3), (155, 3, 145, 3), (155, 3, 155, 3), (145, 3, 155, 3)])
        # Low is what lies below the level: at 0 the rim's points are not low, at -30 none is.
        self.assert_contour(hollow, 0, [1, (0, 1, 0, 1), (100, 1, 0, 1), (100, 1, 100, 1), (0, 1, 100, 1)])
        self.assert_contour(hollow, -30)

    def test_a_ring_of_three(self):
        text = surface([(0, 0, 0), (30, 0, 0), (0, 30, 0), (10, 10, 9)], [(1, 2, 4), (2, 3, 4), (3, 1, 4)])
        self.assert_contour(text, 3, [1, (10, 3, 10, 3), (70, 3, 10, 3), (10, 3, 70, 3)])

    def test_several_open_lines(self):
        self.assert_contour(peaks(3, 3, 3, 7), 5,
                            [0, (15, 1, 0, 1), (20, 1, 5, 1)],
                            [0, (0, 1, 15, 1), (5, 1, 20, 1)])

    def test_open_lines_by_their_least_ends(self):
        # Point 2's line ends on (1, 2) and (2, 3), point 4's on (1, 4) and (4, 7).
        self.assert_contour(peaks(3, 3, 2, 4), 5,
                            [0, (5, 1, 0, 1), (10, 1, 5, 1), (15, 1, 5, 1), (15, 1, 0, 1)],
                            [0, (0, 1, 5, 1), (5, 1, 10, 1), (5, 1, 15, 1), (0, 1, 15, 1)])

    def test_a_ring_of_six(self):
        self.assert_contour(peaks(3, 3, 5), 5,
                            [1, (5, 1, 5, 1), (10, 1, 5, 1), (15, 1, 10, 1),
                             (15, 1, 15, 1), (10, 1, 15, 1), (5, 1, 10, 1)])

    def test_open_lines_ahead_of_rings(self):
        ring = [1, (15, 1, 15, 1), (20, 1, 15, 1), (25, 1, 20, 1), (25, 1, 25, 1), (20, 1, 25, 1), (15, 1, 20, 1)]
        self.assert_contour(peaks(5, 5, 5, 13, 21), 5,
                            [0, (35, 1, 0, 1), (40, 1, 5, 1)],
                            [0, (0, 1, 35, 1), (5, 1, 40, 1)],
                            ring)
        self.assert_contour(peaks(5, 5, 13, 21), 5, [0, (0, 1, 35, 1), (5, 1, 40, 1)], ring)

    def test_rings_by_their_least_edges(self):
        # The peaks are the points 9 and 23 of 5 columns; (3, 9) is less than (17, 23).
        self.assert_contour(peaks(5, 6, 9, 23), 5,
                            [1, (25, 1, 5, 1), (30, 1, 5, 1), (35, 1, 10, 1), (35, 1, 15, 1), (30, 1, 15, 1),
                             (25, 1, 10, 1)],
                            [1, (15, 1, 35, 1), (20, 1, 35, 1), (25, 1, 40, 1), (25, 1, 45, 1), (20, 1, 45, 1),
                             (15, 1, 40, 1)])

    def test_refusals(self):
        self.needs_slots("contour", [1, 0], 1)
        self.refuses_outside("contour", [1, 0], 1, -10000, 10000)
        self.assertEqual(ask(call("contour", 1, HUGE), call("contour", 1, 10000)), [[-1], [-2]])

    def test_the_ends_of_the_levels(self):
        steep = surface([(0, 0, -10000), (10, 0, 10000), (0, 10, 0)], [(1, 2, 3)])
        self.assert_contour(steep, -10000)
        self.assert_contour(steep, -9999, [0, (1, 2000, 0, 1), (0, 1, 1, 1000)])
        self.assert_contour(steep, 10000, [0, (10, 1, 0, 1), (10, 1, 0, 1)])

    def test_of_the_slot_that_is_asked(self):
        answers = ask(load(1, TRIANGLE), load(3, SQUARE), call("contour", 3, -3), call("contour", 1, 5))
        self.assertEqual(answers[2:], [[0, 1, 0, 2, 0, 1, 30, 7, 40, 27, 10, 1], [0, 1, 0, 2, 5, 1, 0, 1, 0, 1, 5, 2]])


if __name__ == "__main__":
    unittest.main()
