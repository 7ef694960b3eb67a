"""Promises 1 and 2: text and facts. Promise 7: outline."""

import unittest

from tests.helper import PYRAMID, SQUARE, TRIANGLE, CallCase, ask, call, grid, load, sixty_faces, surface


class Text(CallCase):
    def test_bytes(self):
        expected = b"point 0 0 0\npoint 10 0 10\npoint 0 10 20\nface 1 2 3\n"
        self.assertEqual(self.told(TRIANGLE, "text", 1), [0] + list(expected))

    def test_words_heights_below_0_and_order(self):
        text = ("# r\npoint 7  1000  -10000\n\npoint 10000 0 9\npoint 9999 10000 0\n face 3 2 1\n"
                "point 0 9000 -1\nface 1 3 4")
        expected = ("point 7 1000 -10000\npoint 10000 0 9\npoint 9999 10000 0\npoint 0 9000 -1\n"
                    "face 3 1 2\nface 1 3 4\n")
        self.assertEqual(self.told(text, "text", 1), [0] + list(expected.encode()))

    def test_the_one_text_is_read_as_the_same_surface(self):
        for text in (SQUARE, PYRAMID, sixty_faces(), grid(5, 6, 2000, lambda x, y: x * 999 - y * 1001)):
            self.assertEqual(self.told(text, "text", 1), [0] + list(text.encode()))

    def test_refusals(self):
        self.needs_slots("text", [1], 1)


class Facts(CallCase):
    def test_triangle(self):
        self.assertEqual(self.told(TRIANGLE, "facts", 1), [0, 3, 1, 3, 100, 0, 20])

    def test_square(self):
        self.assertEqual(self.told(SQUARE, "facts", 1), [0, 4, 2, 4, 200, -7, 20])

    def test_a_point_within_is_none_of_the_outline(self):
        self.assertEqual(self.told(PYRAMID, "facts", 1), [0, 5, 4, 4, 20000, 0, 30])

    def test_straight_outline_points_count(self):
        text = surface([(0, 0, -3), (5, 0, -9), (10, 0, -4), (5, 9, -5)], [(1, 2, 4), (2, 3, 4)])
        self.assertEqual(self.told(text, "facts", 1), [0, 4, 2, 4, 90, -9, -3])

    def test_clockwise_faces_have_an_area_above_0(self):
        text = TRIANGLE.replace("1 2 3", "1 3 2")
        self.assertEqual(self.told(text, "facts", 1), [0, 3, 1, 3, 100, 0, 20])

    def test_the_largest(self):
        text = surface([(0, 0, -10000), (10000, 0, 10000), (10000, 10000, 0), (0, 10000, 0)], [(1, 2, 3), (1, 3, 4)])
        self.assertEqual(self.told(text, "facts", 1), [0, 4, 2, 4, 200000000, -10000, 10000])

    def test_many(self):
        self.assertEqual(self.told(sixty_faces(), "facts", 1), [0, 33, 60, 4, 162000000, 0, 90])
        text = grid(8, 5, 7, lambda x, y: x * y - 9)
        self.assertEqual(self.told(text, "facts", 1), [0, 40, 56, 22, 2 * 49 * 28, -9, 19])

    def test_refusals(self):
        self.needs_slots("facts", [1], 1)


class Outline(CallCase):
    def test_triangle_in_each_order(self):
        for told in ("1 2 3", "2 3 1", "3 1 2", "1 3 2", "3 2 1", "2 1 3"):
            text = TRIANGLE.replace("1 2 3", told)
            self.assertEqual(self.told(text, "outline", 1), [0, 1, 2, 3])

    def test_the_ring_goes_the_other_way_than_a_clock(self):
        text = surface([(0, 0, 0), (0, 10, 20), (10, 0, 10)], [(1, 2, 3)])
        self.assertEqual(self.told(text, "outline", 1), [0, 1, 3, 2])

    def test_it_begins_with_its_least_number(self):
        text = surface([(50, 50, 30), (0, 100, 0), (100, 0, 0), (0, 0, 0), (100, 100, 0)],
                       [(3, 5, 1), (5, 2, 1), (2, 4, 1), (4, 3, 1)])
        self.assertEqual(self.told(text, "outline", 1), [0, 2, 4, 3, 5])

    def test_pyramid(self):
        self.assertEqual(self.told(PYRAMID, "outline", 1), [0, 1, 2, 3, 4])

    def test_grid(self):
        text = grid(4, 3, 10, lambda x, y: 0)
        self.assertEqual(self.told(text, "outline", 1), [0, 1, 2, 3, 4, 8, 12, 11, 10, 9, 5])

    def test_faces_in_another_order(self):
        lines = grid(4, 3, 10, lambda x, y: 0).splitlines(True)
        text = "".join(lines[:12] + lines[:11:-1])
        self.assertEqual(self.told(text, "outline", 1), [0, 1, 2, 3, 4, 8, 12, 11, 10, 9, 5])

    def test_refusals(self):
        self.needs_slots("outline", [1], 1)

    def test_of_the_slot_that_is_asked(self):
        answers = ask(load(1, TRIANGLE), load(4, PYRAMID), call("outline", 4), call("outline", 1), call("outline", 2))
        self.assertEqual(answers[2:], [[0, 1, 2, 3, 4], [0, 1, 2, 3], [-2]])


if __name__ == "__main__":
    unittest.main()
