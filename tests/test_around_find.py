"""Promise 14: around. Promise 22: find."""

import unittest

from tests.helper import PYRAMID, SQUARE, TRIANGLE, CallCase, ask, call, grid, load, sixty_faces, surface


class Around(CallCase):
    def test_one_face(self):
        self.assertEqual(self.told(TRIANGLE, "around", 1, 1), [0, 1, 2, 3, 0, 0, 0])

    def test_the_points_as_the_face_is_taken(self):
        for told, taken in (("2 3 1", [2, 3, 1]), ("3 1 2", [3, 1, 2]), ("1 3 2", [1, 2, 3]), ("3 2 1", [3, 1, 2])):
            text = TRIANGLE.replace("face 1 2 3", "face " + told)
            self.assertEqual(self.told(text, "around", 1, 1), [0] + taken + [0, 0, 0])

    def test_two_faces(self):
        self.assertEqual(self.told(SQUARE, "around", 1, 1), [0, 1, 2, 3, 0, 0, 2])
        self.assertEqual(self.told(SQUARE, "around", 1, 2), [0, 1, 3, 4, 1, 0, 0])

    def test_the_common_edge_first_second_and_third(self):
        for first, at in (("1 2 3", 2), ("2 3 1", 1), ("3 1 2", 0)):
            for second, other in (("1 3 4", 0), ("3 4 1", 2), ("4 1 3", 1)):
                text = SQUARE.replace("face 1 2 3", "face " + first).replace("face 1 3 4", "face " + second)
                beside_first, beside_second = [0, 0, 0], [0, 0, 0]
                beside_first[at], beside_second[other] = 2, 1
                self.assertEqual(ask(load(1, text), call("around", 1, 1), call("around", 1, 2))[1:], [
                    [0] + [int(n) for n in first.split()] + beside_first,
                    [0] + [int(n) for n in second.split()] + beside_second])

    def test_each_edge_has_its_own_face(self):
        # A face in the middle with a face at each of its edges.
        points = [(10, 10, 0), (30, 10, 0), (20, 30, 0), (20, 0, 0), (40, 30, 0), (0, 30, 0)]
        faces = [(3, 2, 5), (1, 2, 3), (6, 1, 3), (2, 1, 4)]
        self.assertEqual(self.told(surface(points, faces), "around", 1, 2), [0, 1, 2, 3, 4, 1, 3])
        faces[1] = (2, 3, 1)
        self.assertEqual(self.told(surface(points, faces), "around", 1, 2), [0, 2, 3, 1, 1, 3, 4])
        faces[1] = (3, 1, 2)
        self.assertEqual(self.told(surface(points, faces), "around", 1, 2), [0, 3, 1, 2, 3, 4, 1])

    def test_pyramid(self):
        told = ask(load(1, PYRAMID), *[call("around", 1, face) for face in (1, 2, 3, 4)])
        self.assertEqual(told[1:], [
            [0, 1, 2, 5, 0, 2, 4], [0, 2, 3, 5, 0, 3, 1], [0, 3, 4, 5, 0, 4, 2], [0, 4, 1, 5, 0, 1, 3]])

    def test_grid(self):
        text = grid(3, 3, 10, lambda x, y: 0)
        told = ask(load(1, text), *[call("around", 1, face) for face in (1, 2, 3, 7)])
        self.assertEqual(told[1:], [
            [0, 1, 2, 5, 0, 4, 2], [0, 1, 5, 4, 1, 5, 0], [0, 2, 3, 6, 0, 0, 4], [0, 5, 6, 9, 4, 0, 8]])

    def test_faces_tell_of_each_other(self):
        told = ask(load(1, sixty_faces()), *[call("around", 1, face) for face in range(1, 61)])[1:]
        self.assertEqual(sum(answer[4:].count(0) for answer in told), 4)
        for face, answer in enumerate(told, start=1):
            for at, other in enumerate(answer[4:]):
                if other != 0:
                    start, end = answer[1 + at], answer[1 + (at + 1) % 3]
                    corners = told[other - 1][1:4]
                    where = corners.index(end)
                    self.assertEqual(corners[(where + 1) % 3], start)
                    self.assertEqual(told[other - 1][4 + where], face)

    def test_refusals(self):
        self.needs_slots("around", [1, 1], 1)
        self.refuses_outside("around", [1, 1], 1, 1, 200)
        for face in (2, 3, 199, 200):
            self.assert_refused(-4, TRIANGLE, "around", 1, face)
        self.assert_refused(-4, sixty_faces(), "around", 1, 61)
        self.assertEqual(len(self.told(sixty_faces(), "around", 1, 60)), 7)
        self.assertEqual(ask(call("around", 1, 201), call("around", 1, 200)), [[-1], [-2]])


class Find(CallCase):
    def test_within_one_face(self):
        self.assertEqual(self.told(TRIANGLE, "find", 1, 1, 1), [0, 1])
        self.assertEqual(self.told(SQUARE, "find", 1, 6, 5), [0, 1])
        self.assertEqual(self.told(SQUARE, "find", 1, 5, 6), [0, 2])
        self.assertEqual(self.told(PYRAMID, "find", 1, 50, 51), [0, 3])

    def test_on_an_edge_of_one_face(self):
        for x, y in ((5, 0), (0, 5), (5, 5), (1, 9), (9, 1)):
            self.assertEqual(self.told(TRIANGLE, "find", 1, x, y), [0, 1])

    def test_on_an_edge_of_two_faces(self):
        self.assertEqual(self.told(SQUARE, "find", 1, 5, 5), [0, 1, 2])
        self.assertEqual(self.told(PYRAMID, "find", 1, 20, 20), [0, 1, 4])
        self.assertEqual(self.told(PYRAMID, "find", 1, 80, 20), [0, 1, 2])

    def test_at_a_point(self):
        self.assertEqual(self.told(TRIANGLE, "find", 1, 0, 10), [0, 1])
        self.assertEqual(self.told(SQUARE, "find", 1, 10, 0), [0, 1])
        self.assertEqual(self.told(SQUARE, "find", 1, 10, 10), [0, 1, 2])
        self.assertEqual(self.told(PYRAMID, "find", 1, 50, 50), [0, 1, 2, 3, 4])
        self.assertEqual(self.told(grid(3, 3, 10, lambda x, y: 0), "find", 1, 10, 10), [0, 1, 2, 4, 5, 7, 8])

    def test_faces_rise_in_whatever_order_they_lie(self):
        text = surface([(0, 0, 0), (100, 0, 0), (100, 100, 0), (0, 100, 0), (50, 50, 30)],
                       [(3, 4, 5), (1, 2, 5), (4, 1, 5), (2, 3, 5)])
        self.assertEqual(self.told(text, "find", 1, 50, 50), [0, 1, 2, 3, 4])
        self.assertEqual(self.told(text, "find", 1, 0, 0), [0, 2, 3])
        self.assertEqual(self.told(text, "find", 1, 100, 100), [0, 1, 4])

    def test_outside(self):
        for x, y in ((6, 5), (5, 6), (11, 0), (0, 11), (10, 10), (10000, 10000), (10000, 0), (0, 10000)):
            self.assertEqual(self.told(TRIANGLE, "find", 1, x, y), [0])

    def test_in_a_bay_of_the_outline(self):
        text = surface([(0, 0, 0), (90, 0, 0), (30, 30, 0), (0, 90, 0)], [(1, 2, 3), (1, 3, 4)])
        self.assertEqual(self.told(text, "find", 1, 31, 31), [0])
        self.assertEqual(self.told(text, "find", 1, 30, 30), [0, 1, 2])
        self.assertEqual(self.told(text, "find", 1, 29, 28), [0, 1])

    def test_the_ends_of_the_ranges(self):
        text = surface([(0, 0, 0), (10000, 0, 0), (10000, 10000, 0), (0, 10000, 0)], [(1, 2, 3), (1, 3, 4)])
        told = ask(load(1, text), *[call("find", 1, x, y) for x in (0, 10000) for y in (0, 10000)])
        self.assertEqual(told[1:], [[0, 1, 2], [0, 2], [0, 1], [0, 1, 2]])

    def test_refusals(self):
        self.needs_slots("find", [1, 0, 0], 1)
        self.refuses_outside("find", [1, 0, 0], 1, 0, 10000)
        self.refuses_outside("find", [1, 0, 0], 2, 0, 10000)
        self.assertEqual(ask(call("find", 1, 10001, 0), call("find", 1, 0, -1), call("find", 1, 0, 0)),
                         [[-1], [-1], [-2]])


if __name__ == "__main__":
    unittest.main()
