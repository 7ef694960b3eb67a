"""Promise 21: same."""

import unittest

from tests.helper import PYRAMID, SQUARE, TRIANGLE, CallCase, ask, call, load, sixty_faces, surface

POINTS = [(0, 0, 0), (10, 0, 6), (10, 10, 20), (0, 10, -7)]
FACES = [(1, 2, 3), (1, 3, 4)]


class Same(CallCase):
    def assert_same(self, first, second, *told):
        answers = ask(load(1, first), load(2, second), call("same", 1, 2), call("same", 2, 1))
        self.assertEqual([answer[:2] for answer in answers[:2]], [[0, 0]] * 2, "the test's own text has a fault")
        self.assertEqual(answers[2:], [[0, *told]] * 2)

    def test_the_same_points_and_faces(self):
        for text in (TRIANGLE, SQUARE, PYRAMID, sixty_faces()):
            self.assert_same(text, text, 1, 1)
            self.assert_same(text, "# told otherwise\n" + text.replace(" ", "   "), 1, 1)

    def test_faces_told_as_the_clock_goes(self):
        self.assert_same(SQUARE, SQUARE.replace("face 1 3 4", "face 1 4 3"), 1, 1)

    def test_one_slot(self):
        self.assertEqual(ask(load(3, PYRAMID), call("same", 3, 3))[1], [0, 1, 1])

    def test_another_order_of_the_faces(self):
        self.assert_same(SQUARE, surface(POINTS, FACES[::-1]), 0, 1)

    def test_another_order_of_the_points(self):
        points = [POINTS[2], POINTS[3], POINTS[0], POINTS[1]]
        self.assert_same(SQUARE, surface(points, [(3, 4, 1), (3, 1, 2)]), 0, 1)

    def test_a_face_that_begins_elsewhere(self):
        self.assert_same(SQUARE, surface(POINTS, [(2, 3, 1), (1, 3, 4)]), 0, 1)

    def test_the_outline_told_from_another_point_on(self):
        for turn in (1, 2, 3):
            points = POINTS[turn:] + POINTS[:turn]
            self.assert_same(SQUARE, surface(points, FACES), 0, 1)

    def test_another_height_alone(self):
        for at in range(4):
            points = list(POINTS)
            points[at] = (*points[at][:2], points[at][2] + 1)
            self.assert_same(SQUARE, surface(points, FACES), 0, 1)

    def test_other_faces_within_the_same_outline(self):
        self.assert_same(SQUARE, surface(POINTS, [(1, 2, 4), (2, 3, 4)]), 0, 1)
        within = surface(POINTS + [(5, 4, 0)], [(1, 2, 5), (2, 3, 5), (3, 4, 5), (4, 1, 5)])
        self.assert_same(SQUARE, within, 0, 1)

    def test_a_point_within_moved(self):
        self.assert_same(PYRAMID, PYRAMID.replace("50 50 30", "50 51 30"), 0, 1)

    def test_another_outline(self):
        self.assert_same(TRIANGLE, SQUARE, 0, 0)
        self.assert_same(SQUARE, SQUARE.replace("10 10 20", "10 11 20"), 0, 0)
        self.assert_same(SQUARE, SQUARE.replace("10 10 20", "11 10 20"), 0, 0)

    def test_one_more_point_on_a_side_of_the_outline(self):
        more = surface(POINTS + [(5, 0, 3)], [(1, 5, 3), (5, 2, 3), (1, 3, 4)])
        self.assert_same(SQUARE, more, 0, 0)

    def test_the_same_places_in_another_ring(self):
        # Points round a star and round its like with other sides.
        points = [(0, 0, 0), (40, 0, 0), (40, 40, 0), (0, 40, 0), (15, 20, 0)]
        open_left = surface(points, [(1, 2, 5), (2, 3, 5), (3, 4, 5)])
        open_below = surface(points, [(2, 3, 5), (3, 4, 5), (4, 1, 5)])
        self.assert_same(open_left, open_below, 0, 0)

    def test_a_shorter_text_with_the_same_beginning(self):
        part = surface(POINTS[:3], FACES[:1])
        self.assert_same(part, SQUARE, 0, 0)

    def test_after_edits(self):
        ends = [call("same", 1, 2)]
        for edits, told in (
            ([], [0, 1, 1]),
            ([call("raise", 2, 3, 21)], [0, 0, 1]),
            ([call("raise", 2, 3, 21), call("raise", 2, 3, 20)], [0, 1, 1]),
            ([call("raise", 2, 3, 20)], [0, 1, 1]),
            ([call("shift", 2, 1)], [0, 0, 1]),
            ([call("shift", 2, 1), call("shift", 1, 1)], [0, 1, 1]),
            ([call("insert", 2, 5, 4, 0)], [0, 0, 1]),
            ([call("insert", 2, 5, 4, 0), call("insert", 1, 5, 4, 0)], [0, 1, 1]),
            ([call("insert", 2, 5, 4, 0), call("copy", 1, 2)], [0, 1, 1]),
            ([call("flip", 2, 1, 2)], [0, 0, 1]),
            ([call("flip", 2, 1, 2), call("flip", 1, 2, 1)], [0, 1, 1]),
            ([load(2, TRIANGLE)], [0, 0, 0]),
            ([load(2, TRIANGLE), call("copy", 2, 1)], [0, 1, 1]),
        ):
            self.assertEqual(ask(load(1, SQUARE), call("copy", 1, 2), *edits, *ends)[-1], told, edits)

    def test_refusals(self):
        self.needs_slots("same", [1, 2], 2)
        self.assert_refused(-2, SQUARE, "same", 1, 4)
        self.assert_refused(-2, SQUARE, "same", 4, 1)
        for slots in ((1, 5), (0, 1), (4, 5), (0, 4), (5, 5)):
            self.assert_refused(-1, SQUARE, "same", *slots)


if __name__ == "__main__":
    unittest.main()
