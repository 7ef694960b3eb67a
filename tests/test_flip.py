"""Promise 17: flip."""

import itertools
import unittest

from tests.helper import PYRAMID, SQUARE, TRIANGLE, CallCase, ask, call, grid_parts, load, surface

SQUARE_POINTS = [(0, 0, 0), (10, 0, 6), (10, 10, 20), (0, 10, -7)]
# The three ways to begin a face.
TURNS = ((0, 1, 2), (1, 2, 0), (2, 0, 1))


def turned(face, turn):
    return tuple(face[at] for at in turn)


class Flip(CallCase):
    def test_as_it_is_told(self):
        # The first face is 1, 2, 3: its own point is 2, the common edge leads from 3 to 1, the other's own is 4.
        self.assertEqual(ask(load(1, SQUARE), call("flip", 1, 1, 2), call("text", 1))[1:], [
            [0], [0] + list(surface(SQUARE_POINTS, [(2, 3, 4), (4, 1, 2)]).encode())])

    def test_with_the_second_face_told_first(self):
        # Now the first is 1, 3, 4: its own point is 4, the common edge leads from 1 to 3, the other's own is 2.
        self.assertEqual(ask(load(1, SQUARE), call("flip", 1, 2, 1), call("text", 1))[1:], [
            [0], [0] + list(surface(SQUARE_POINTS, [(2, 3, 4), (4, 1, 2)]).encode())])

    def test_the_common_edge_first_second_and_third_in_either(self):
        for first, second in itertools.product(TURNS, TURNS):
            faces = [turned((1, 2, 3), first), turned((1, 3, 4), second)]
            text = surface(SQUARE_POINTS, faces)
            for told in ((1, 2), (2, 1)):
                answer = self.assert_becomes(text, [call("flip", 1, *told)], SQUARE_POINTS, [(2, 3, 4), (4, 1, 2)])
                self.assertEqual(answer, [[0]])
            text = surface(SQUARE_POINTS, faces[::-1])
            for told in ((1, 2), (2, 1)):
                self.assert_becomes(text, [call("flip", 1, *told)], SQUARE_POINTS, [(4, 1, 2), (2, 3, 4)])

    def test_among_other_faces(self):
        points, faces = grid_parts(3, 3, 10, lambda x, y: x * x + 3 * y)
        for first, second, after in (
            (1, 2, {1: (2, 5, 4), 2: (4, 1, 2)}),
            (2, 1, {1: (2, 5, 4), 2: (4, 1, 2)}),
            (7, 8, {7: (6, 9, 8), 8: (8, 5, 6)}),
            (1, 4, {1: (1, 2, 6), 4: (6, 5, 1)}),
            (5, 2, {5: (8, 4, 1), 2: (1, 5, 8)}),
        ):
            expected = [after.get(number, face) for number, face in enumerate(faces, start=1)]
            told = self.assert_becomes(surface(points, faces), [call("flip", 1, first, second)], points, expected)
            self.assertEqual(told, [[0]])

    def test_there_and_back(self):
        edits = [call("flip", 1, 1, 2)]
        # The second flip takes its own points and edge anew: the two faces have changed places.
        self.assert_becomes(SQUARE, edits * 2, SQUARE_POINTS, [(3, 4, 1), (1, 2, 3)])
        self.assert_becomes(SQUARE, edits * 3, SQUARE_POINTS, [(4, 1, 2), (2, 3, 4)])
        self.assert_becomes(SQUARE, edits * 4, SQUARE_POINTS, [(1, 2, 3), (3, 4, 1)])
        back = [call("flip", 1, 1, 2), call("flip", 1, 2, 1)]
        self.assertEqual(self.assert_becomes(SQUARE, back, SQUARE_POINTS, [(3, 4, 1), (1, 2, 3)]), [[0], [0]])

    def test_heights_after_it(self):
        asked = [call("height", 1, 5, 5, 1), call("volume", 1, 0), call("down", 1, 2), call("find", 1, 5, 5),
                 call("find", 1, 1, 1)]
        told = ask(load(1, SQUARE), *asked, call("flip", 1, 1, 2), *asked)
        self.assertEqual(told[1:6], [[0, 1, 10, 1], [0, 3900], [0, 2, 1, 4], [0, 1, 2], [0, 1, 2]])
        # Seen from point 2, 1 drops by 6 over 10, 4 by 13 over the root of 200.
        self.assertEqual(told[7:], [[0, 1, -1, 2], [0, 100 * 19 + 100 * -1], [0, 2, 4], [0, 1, 2], [0, 2]])

    def test_the_outline_stays(self):
        points, faces = grid_parts(4, 3, 10, lambda x, y: x - y)
        flips = [call("flip", 1, 1, 2), call("flip", 1, 5, 6), call("flip", 1, 8, 7), call("flip", 1, 12, 11)]
        asked = [call("outline", 1), call("facts", 1)]
        told = ask(load(1, surface(points, faces)), *asked, *flips, *asked)
        self.assertEqual(told[3:7], [[0]] * 4)
        self.assertEqual(told[1:3], told[7:])
        self.assertEqual(told[1], [0, 1, 2, 3, 4, 8, 12, 11, 10, 9, 5])

    def test_the_outline_of_two_faces(self):
        told = ask(load(1, SQUARE), call("outline", 1), call("flip", 1, 2, 1), call("outline", 1),
                   call("flip", 1, 1, 2), call("outline", 1))
        self.assertEqual(told[1:], [[0, 1, 2, 3, 4], [0], [0, 1, 2, 3, 4], [0], [0, 1, 2, 3, 4]])

    def test_other_slots_stay(self):
        told = ask(load(1, SQUARE), call("copy", 1, 3), call("flip", 3, 1, 2), call("text", 1), call("same", 1, 3))
        self.assertEqual(told[2:], [[0], [0] + list(SQUARE.encode()), [0, 0, 1]])


class NoFlip(CallCase):
    def test_the_same_face_twice(self):
        self.assert_refused(-9, TRIANGLE, "flip", 1, 1, 1)
        for face in (1, 2):
            self.assert_refused(-9, SQUARE, "flip", 1, face, face)
        for face in (1, 2, 3, 4):
            self.assert_refused(-9, PYRAMID, "flip", 1, face, face)

    def test_faces_that_share_a_point_alone(self):
        for first, second in ((1, 3), (3, 1), (2, 4), (4, 2)):
            self.assert_refused(-9, PYRAMID, "flip", 1, first, second)

    def test_faces_that_share_nothing(self):
        points, faces = grid_parts(4, 2, 10, lambda x, y: 0)
        text = surface(points, faces)
        for first, second in ((1, 6), (6, 1), (2, 5), (1, 3), (2, 3)):
            self.assert_refused(-9, text, "flip", 1, first, second)
        self.assertEqual(self.told(text, "flip", 1, 1, 4), [0])

    def refuses_piece(self, points):
        """The faces 1, 2, 3 and 1, 3, 4 are not flipped, however they are told."""
        for first, second in itertools.product(TURNS, TURNS):
            text = surface(points, [turned((1, 2, 3), first), turned((1, 3, 4), second)])
            for told in ((1, 2), (2, 1)):
                self.assert_refused(-10, text, "flip", 1, *told)

    def test_a_piece_that_does_not_bulge(self):
        # A bay at point 3, then at point 1.
        self.refuses_piece([(0, 0, 0), (10, 0, 1), (2, 2, 2), (0, 10, 3)])
        self.refuses_piece([(8, 8, 0), (10, 0, 1), (10, 10, 2), (0, 10, 3)])

    def test_three_points_on_one_line(self):
        self.refuses_piece([(0, 0, 0), (10, 0, 1), (5, 5, 2), (0, 10, 3)])
        self.refuses_piece([(5, 5, 0), (10, 0, 1), (10, 10, 2), (0, 10, 3)])
        self.refuses_piece([(0, 0, 0), (10000, 0, 1), (5000, 5000, 2), (0, 10000, 3)])

    def test_a_piece_that_just_bulges(self):
        for points in ([(0, 0, 0), (10, 0, 1), (6, 5, 2), (0, 10, 3)], [(4, 5, 0), (10, 0, 1), (10, 10, 2), (0, 10, 3)],
                       [(0, 0, 0), (10000, 0, 1), (5001, 5000, 2), (0, 10000, 3)],
                       [(0, 0, 0), (1, 0, 1), (1, 1, 2), (0, 1, 3)], [(0, 0, 0), (4, 1, 1), (3, 2, 2), (1, 3, 3)]):
            text = surface(points, [(1, 2, 3), (1, 3, 4)])
            self.assert_becomes(text, [call("flip", 1, 1, 2)], points, [(2, 3, 4), (4, 1, 2)])
            self.assert_becomes(text, [call("flip", 1, 2, 1)], points, [(2, 3, 4), (4, 1, 2)])

    def test_within_a_pyramid(self):
        # The middle lies on the line between two corners, so that no two neighbours bulge there.
        for first, second in ((1, 2), (2, 1), (2, 3), (3, 4), (4, 1), (1, 4)):
            self.assert_refused(-10, PYRAMID, "flip", 1, first, second)
        points = [(0, 0, 0), (100, 0, 0), (100, 100, 0), (0, 100, 0), (50, 51, 30)]
        text = surface(points, [(1, 2, 5), (2, 3, 5), (3, 4, 5), (4, 1, 5)])
        for first, second in ((2, 3), (4, 3)):
            self.assert_refused(-10, text, "flip", 1, first, second)
        self.assert_becomes(text, [call("flip", 1, 1, 2)], points, [(1, 2, 3), (3, 5, 1), (3, 4, 5), (4, 1, 5)])
        self.assert_becomes(text, [call("flip", 1, 1, 4)], points, [(2, 5, 4), (2, 3, 5), (3, 4, 5), (4, 1, 2)])

    def test_no_such_face(self):
        for first, second in ((3, 1), (1, 3), (3, 3), (200, 1), (1, 200), (200, 200)):
            self.assert_refused(-4, SQUARE, "flip", 1, first, second)
        # Ahead of what is said of the piece: these two have no edge in common, and do not bulge.
        self.assert_refused(-4, TRIANGLE, "flip", 1, 2, 2)
        self.assert_refused(-4, PYRAMID, "flip", 1, 5, 5)

    def test_refusals(self):
        self.needs_slots("flip", [1, 1, 1], 1)
        self.refuses_outside("flip", [1, 1, 1], 1, 1, 200)
        self.refuses_outside("flip", [1, 1, 1], 2, 1, 200)
        for arguments in ((0, 1, 2), (5, 1, 2), (1, 0, 2), (1, 1, 0), (1, 201, 2), (1, 1, 201), (4, 201, 1), (4, 1, 0)):
            self.assert_refused(-1, SQUARE, "flip", *arguments)
        self.assert_refused(-2, SQUARE, "flip", 4, 200, 200)
        self.assert_refused(-2, SQUARE, "flip", 4, 1, 2)


if __name__ == "__main__":
    unittest.main()
