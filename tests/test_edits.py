"""Promises 15, 16, 18 and 19: raise, insert, copy and shift."""

import unittest

from tests.helper import (
    PYRAMID, SQUARE, TRIANGLE, CallCase, ask, call, grid_parts, grown, largest, load, looks, middle, sixty_faces,
    surface,
)

SQUARE_POINTS = [(0, 0, 0), (10, 0, 6), (10, 10, 20), (0, 10, -7)]
SQUARE_FACES = [(1, 2, 3), (1, 3, 4)]
PYRAMID_POINTS = [(0, 0, 0), (100, 0, 0), (100, 100, 0), (0, 100, 0), (50, 50, 30)]
PYRAMID_FACES = [(1, 2, 5), (2, 3, 5), (3, 4, 5), (4, 1, 5)]


def told_text(points, faces):
    return [0] + list(surface(points, faces).encode())


class Raise(CallCase):
    def test_the_point_has_this_height(self):
        for number in (1, 2, 3, 4):
            points = list(SQUARE_POINTS)
            points[number - 1] = (*points[number - 1][:2], 13)
            self.assertEqual(ask(load(1, SQUARE), call("raise", 1, number, 13), call("text", 1))[1:], [
                [0], told_text(points, SQUARE_FACES)])
            self.assertEqual(self.assert_becomes(SQUARE, [call("raise", 1, number, 13)], points, SQUARE_FACES), [[0]])

    def test_up_down_and_to_the_same_height(self):
        for z in (-10000, -1, 0, 29, 30, 31, 10000):
            points = PYRAMID_POINTS[:4] + [(50, 50, z)]
            self.assert_becomes(PYRAMID, [call("raise", 1, 5, z)], points, PYRAMID_FACES)

    def test_the_last_height_holds(self):
        points = PYRAMID_POINTS[:4] + [(50, 50, 12)]
        told = self.assert_becomes(PYRAMID, [call("raise", 1, 5, z) for z in (-7, 99, 12)], points, PYRAMID_FACES)
        self.assertEqual(told, [[0]] * 3)

    def test_what_is_asked_before_is_told_of_before(self):
        asked = [call("height", 1, 50, 50, 1), call("down", 1, 1), call("facts", 1)]
        told = ask(load(1, PYRAMID), *asked, call("raise", 1, 5, -9), *asked)
        self.assertEqual(told[1:], [
            [0, 1, 30, 1], [0, 1], [0, 5, 4, 4, 20000, 0, 30], [0],
            [0, 1, -9, 1], [0, 1, 5], [0, 5, 4, 4, 20000, -9, 0]])

    def test_each_point_of_the_largest(self):
        points, faces = largest(lambda x, y: x * y)
        raised = [(x, y, number * 3 - 50) for number, (x, y, z) in enumerate(points, start=1)]
        edits = [call("raise", 1, number, number * 3 - 50) for number in range(1, 41)]
        self.assertEqual(ask(load(1, surface(points, faces)), *edits, call("text", 1))[1:], [
            *[[0]] * 40, told_text(raised, faces)])

    def test_other_slots_stay(self):
        told = ask(load(1, SQUARE), load(2, SQUARE), call("raise", 2, 1, 99), call("text", 1), call("text", 2))
        self.assertEqual(told[3:], [told_text(SQUARE_POINTS, SQUARE_FACES),
                                    told_text([(0, 0, 99)] + SQUARE_POINTS[1:], SQUARE_FACES)])

    def test_refusals(self):
        self.needs_slots("raise", [1, 1, 0], 1)
        self.refuses_outside("raise", [1, 1, 0], 1, 1, 200)
        self.refuses_outside("raise", [1, 1, 0], 2, -10000, 10000)
        for number in (5, 6, 200):
            self.assert_refused(-3, SQUARE, "raise", 1, number, 0)
        for arguments in ((0, 1, 0), (5, 1, 0), (1, 0, 0), (1, 201, 0), (1, 1, 10001), (1, 1, -10001)):
            self.assert_refused(-1, SQUARE, "raise", *arguments)
        self.assert_refused(-1, SQUARE, "raise", 1, 5, 10001)
        self.assert_refused(-1, SQUARE, "raise", 4, 5, 10001)
        self.assert_refused(-2, SQUARE, "raise", 4, 5, 0)


class Insert(CallCase):
    def test_in_a_triangle(self):
        told = ask(load(1, TRIANGLE), call("insert", 1, 3, 2, -4), call("text", 1))
        points = [(0, 0, 0), (10, 0, 10), (0, 10, 20), (3, 2, -4)]
        self.assertEqual(told[1:], [[0, 1], told_text(points, [(1, 2, 4), (2, 3, 4), (3, 1, 4)])])

    def test_by_the_order_in_which_the_face_is_told(self):
        points = [(0, 0, 0), (10, 0, 10), (0, 10, 20), (3, 2, -4)]
        for told, faces in (
            ("2 3 1", [(2, 3, 4), (3, 1, 4), (1, 2, 4)]), ("3 1 2", [(3, 1, 4), (1, 2, 4), (2, 3, 4)]),
            ("1 3 2", [(1, 2, 4), (2, 3, 4), (3, 1, 4)]), ("2 1 3", [(2, 3, 4), (3, 1, 4), (1, 2, 4)]),
        ):
            text = TRIANGLE.replace("face 1 2 3", "face " + told)
            self.assertEqual(self.assert_becomes(text, [call("insert", 1, 3, 2, -4)], points, faces), [[0, 1]])

    def test_in_each_face_of_several(self):
        for number, (x, y) in enumerate(((50, 10), (90, 50), (50, 90), (10, 50)), start=1):
            a, b, c = PYRAMID_FACES[number - 1]
            faces = list(PYRAMID_FACES)
            faces[number - 1] = (a, b, 6)
            faces += [(b, c, 6), (c, a, 6)]
            told = self.assert_becomes(PYRAMID, [call("insert", 1, x, y, 17)], PYRAMID_POINTS + [(x, y, 17)], faces)
            self.assertEqual(told, [[0, number]])

    def test_again_in_the_new_faces(self):
        edits = [call("insert", 1, x, y, z) for x, y, z in ((30, 30, 1), (40, 8, 2), (40, 30, 3), (10, 31, 4))]
        text = surface([(0, 0, 0), (90, 0, 10), (0, 90, 20)], [(1, 2, 3)])
        points = [(0, 0, 0), (90, 0, 10), (0, 90, 20), (30, 30, 1), (40, 8, 2), (40, 30, 3), (10, 31, 4)]
        faces = [(1, 2, 5), (2, 3, 6), (3, 1, 7), (2, 4, 5), (4, 1, 5), (3, 4, 6), (4, 2, 6), (1, 4, 7), (4, 3, 7)]
        self.assertEqual(self.assert_becomes(text, edits, points, faces), [[0, 1], [0, 1], [0, 2], [0, 3]])

    def test_the_new_point_is_there_for_later_edits(self):
        told = ask(load(1, TRIANGLE), call("raise", 1, 4, 5), call("insert", 1, 3, 2, 0), call("raise", 1, 4, 5),
                   call("height", 1, 3, 2, 1), call("insert", 1, 3, 2, 0), call("flip", 1, 1, 2))
        self.assertEqual(told[1:], [[-3], [0, 1], [0], [0, 1, 5, 1], [-8], [-10]])

    def test_just_within(self):
        text = surface([(0, 0, 0), (10000, 0, 0), (0, 10000, 0)], [(1, 2, 3)])
        for x, y in ((1, 1), (9998, 1), (1, 9998), (5000, 4999), (4999, 5000)):
            self.assertEqual(self.told(text, "insert", 1, x, y, 0), [0, 1])
        for x, y in ((1, 0), (0, 1), (9999, 1), (1, 9999), (5000, 5000), (5001, 5000), (10000, 10000)):
            self.assert_refused(-8, text, "insert", 1, x, y, 0)

    def test_on_an_edge(self):
        for x, y in ((5, 0), (10, 5), (5, 10), (0, 5), (1, 0), (9, 10)):
            self.assert_refused(-8, SQUARE, "insert", 1, x, y, 0)
        for x, y in ((5, 5), (1, 1), (9, 9)):
            self.assert_refused(-8, SQUARE, "insert", 1, x, y, 0)

    def test_at_a_point(self):
        for x, y, z in SQUARE_POINTS:
            self.assert_refused(-8, SQUARE, "insert", 1, x, y, z)
        self.assert_refused(-8, PYRAMID, "insert", 1, 50, 50, 30)

    def test_outside(self):
        for x, y in ((11, 5), (5, 11), (11, 11), (10000, 10000), (0, 11)):
            self.assert_refused(-8, SQUARE, "insert", 1, x, y, 0)
        bay = surface([(0, 0, 0), (90, 0, 0), (30, 30, 0), (0, 90, 0)], [(1, 2, 3), (1, 3, 4)])
        self.assert_refused(-8, bay, "insert", 1, 31, 31, 0)
        self.assertEqual(self.told(bay, "insert", 1, 29, 28, 0), [0, 1])

    def test_39_and_40_points(self):
        points = [(x, x * x, 0) for x in range(40)]
        faces = [(1, n, n + 1) for n in range(2, 40)]
        x, y = middle(points, faces[36])
        told = ask(load(1, surface(points[:39], faces[:37])), call("insert", 1, x, y, 5), call("text", 1),
                   call("insert", 1, x, y - 1, 5))
        after = told_text(points[:39] + [(x, y, 5)], faces[:36] + [(1, 38, 40), (38, 39, 40), (39, 1, 40)])
        self.assertEqual(told[1:], [[0, 37], after, [-7]])
        self.assert_refused(-7, surface(points, faces), "insert", 1, x, y, 5)

    def test_58_and_59_faces(self):
        square = [(0, 0, 0), (9000, 0, 30), (9000, 9000, 60), (0, 9000, 90)]
        points, faces = grown(square, [(1, 2, 3), (1, 3, 4)], 28)
        self.assertEqual((len(points), len(faces)), (32, 58))
        x, y = middle(points, faces[57])
        a, b, c = faces[57]
        told = ask(load(1, surface(points, faces)), call("insert", 1, x, y, -3), call("text", 1),
                   call("insert", 1, *middle(points, faces[0]), 0))
        self.assertEqual(told[1:], [
            [0, 58], told_text(points + [(x, y, -3)], faces[:57] + [(a, b, 33), (b, c, 33), (c, a, 33)]), [-7]])
        points, faces = grown(square[:3], [(1, 2, 3)], 29)
        self.assertEqual((len(points), len(faces)), (32, 59))
        self.assert_refused(-7, surface(points, faces), "insert", 1, *middle(points, faces[0]), 0)
        points, faces = grown(square, [(1, 2, 3), (1, 3, 4)], 29)
        self.assert_refused(-7, surface(points, faces), "insert", 1, *middle(points, faces[0]), 0)

    def test_up_to_the_largest(self):
        points, faces = grid_parts(5, 6, 2000, lambda x, y: x - y)
        after = grown(points, faces, 10)
        # The faces that hold the new points are those that grown takes.
        inserts = [call("insert", 1, *point) for point in after[0][30:]]
        told = ask(load(1, surface(points, faces)), *inserts, call("text", 1), call("insert", 1, 5, 3, 0))
        self.assertEqual(told[-2:], [told_text(*after), [-7]])
        held = []
        for number in range(31, 41):
            held.append([0, (number * 7) % (40 + 2 * (number - 31)) + 1])
        self.assertEqual(told[1:-2], held)

    def test_no_room_is_told_ahead_of_the_place(self):
        for x, y in ((0, 0), (4500, 0), (9500, 9500), (9000, 9000)):
            self.assert_refused(-7, sixty_faces(), "insert", 1, x, y, 0)

    def test_refusals(self):
        self.needs_slots("insert", [1, 1, 1, 0], 1)
        self.refuses_outside("insert", [1, 1, 1, 0], 1, 0, 10000)
        self.refuses_outside("insert", [1, 1, 1, 0], 2, 0, 10000)
        self.refuses_outside("insert", [1, 1, 1, 0], 3, -10000, 10000)
        for arguments in ((0, 5, 4, 0), (5, 5, 4, 0), (1, -1, 4, 0), (1, 10001, 4, 0), (1, 5, -1, 0),
                          (1, 5, 10001, 0), (1, 5, 4, 10001), (1, 5, 4, -10001), (4, 5, 4, 10001)):
            self.assert_refused(-1, SQUARE, "insert", *arguments)
            self.assert_refused(-1, sixty_faces(), "insert", *arguments)
        self.assert_refused(-2, sixty_faces(), "insert", 4, 5, 4, 0)

    def test_heights_at_the_ends(self):
        for z in (-10000, 10000):
            told = ask(load(1, SQUARE), call("insert", 1, 5, 4, z), call("height", 1, 5, 4, 1))
            self.assertEqual(told[1:], [[0, 1], [0, 1, z, 1]])


class Copy(CallCase):
    def test_to_each_other_slot(self):
        for second in (2, 3, 4):
            told = ask(load(1, PYRAMID), call("copy", 1, second), *[call("text", slot) for slot in (1, 2, 3, 4)])
            expected = [[-2]] * 4
            expected[0] = expected[second - 1] = [0] + list(PYRAMID.encode())
            self.assertEqual(told[1:], [[0]] + expected)

    def test_in_the_place_of_what_was_there(self):
        told = ask(load(1, PYRAMID), load(3, SQUARE), call("copy", 3, 1), call("text", 1), call("text", 3))
        self.assertEqual(told[2:], [[0], [0] + list(SQUARE.encode()), [0] + list(SQUARE.encode())])

    def test_to_the_same_slot(self):
        self.assertEqual(self.assert_becomes(PYRAMID, [call("copy", 1, 1)], PYRAMID_POINTS, PYRAMID_FACES), [[0]])
        points = PYRAMID_POINTS[:4] + [(50, 50, 7)]
        edits = [call("copy", 1, 1), call("raise", 1, 5, 7), call("copy", 1, 1)]
        self.assert_becomes(PYRAMID, edits, points, PYRAMID_FACES)

    def test_every_call_tells_the_same_of_both(self):
        edits = [load(4, PYRAMID), call("copy", 4, 1)]
        self.assert_becomes(SQUARE, edits, PYRAMID_POINTS, PYRAMID_FACES)

    def test_both_are_changed_apart_from_each_other(self):
        asked = looks(PYRAMID_POINTS, PYRAMID_FACES)
        points = PYRAMID_POINTS + [(50, 10, 3)]
        loads = [load(2, SQUARE), load(4, PYRAMID)]
        for edit in (call("raise", 4, 5, -8), call("insert", 4, 50, 10, 3), call("flip", 4, 1, 2), call("shift", 4, 9),
                     load(4, TRIANGLE), call("copy", 2, 4)):
            # Slot 1 is first copied from slot 4, then slot 4 from slot 1.
            for first in ([*loads, call("copy", 4, 1)], [load(1, PYRAMID), *loads[:1], call("copy", 1, 4)]):
                told = ask(*first, *asked, edit, *asked)
                before, after = told[len(first):len(first) + len(asked)], told[len(first) + len(asked) + 1:]
                self.assertEqual(before, after, edit)
        told = ask(load(4, PYRAMID), call("copy", 4, 1), call("insert", 1, 50, 10, 3), call("raise", 4, 5, 9),
                   call("shift", 1, 1), call("text", 1), call("text", 4))
        faces = [(1, 2, 6)] + PYRAMID_FACES[1:] + [(2, 5, 6), (5, 1, 6)]
        self.assertEqual(told[5:], [told_text([(x, y, z + 1) for x, y, z in points], faces),
                                    told_text(PYRAMID_POINTS[:4] + [(50, 50, 9)], PYRAMID_FACES)])

    def test_copies_of_copies(self):
        told = ask(load(1, SQUARE), call("copy", 1, 2), call("raise", 1, 1, 1), call("copy", 2, 3),
                   call("raise", 2, 1, 2), call("copy", 3, 4), call("raise", 3, 1, 3),
                   *[call("text", slot) for slot in (1, 2, 3, 4)])
        for answer, z in zip(told[-4:], (1, 2, 3, 0)):
            self.assertEqual(answer, told_text([(0, 0, z)] + SQUARE_POINTS[1:], SQUARE_FACES))

    def test_refusals(self):
        self.needs_slots("copy", [1, 2], 1)
        self.refuses_outside("copy", [1, 2], 1, 1, 4)
        # The first slot alone is asked: slot 4 has no surface.
        self.assertEqual(self.told(SQUARE, "copy", 1, 4), [0])
        self.assert_refused(-2, SQUARE, "copy", 4, 1)
        self.assert_refused(-2, SQUARE, "copy", 4, 4)
        for slots in ((1, 0), (1, 5), (0, 1), (5, 1), (4, 5), (4, 0), (5, 5)):
            self.assert_refused(-1, SQUARE, "copy", *slots)


class Shift(CallCase):
    def test_all_heights_are_so_much_more(self):
        for z in (-10, -1, 0, 1, 29):
            points = [(x, y, height + z) for x, y, height in SQUARE_POINTS]
            self.assertEqual(self.assert_becomes(SQUARE, [call("shift", 1, z)], points, SQUARE_FACES), [[0]])

    def test_there_and_back(self):
        edits = [call("shift", 1, z) for z in (500, -9993, 9493)]
        self.assertEqual(self.assert_becomes(SQUARE, edits, SQUARE_POINTS, SQUARE_FACES), [[0]] * 3)

    def test_just_to_the_highest_and_the_lowest(self):
        # The heights are -7 to 20.
        for z in (9980, -9993):
            points = [(x, y, height + z) for x, y, height in SQUARE_POINTS]
            self.assertEqual(ask(load(1, SQUARE), call("shift", 1, z), call("text", 1))[1:], [
                [0], told_text(points, SQUARE_FACES)])
        for z in (9981, -9994, 10000, -10000):
            self.assert_refused(-11, SQUARE, "shift", 1, z)

    def test_one_height_beyond_is_enough(self):
        for at in range(4):
            points = [(x, y, 0) for x, y, z in SQUARE_POINTS]
            points[at] = (*points[at][:2], 1)
            self.assert_refused(-11, surface(points, SQUARE_FACES), "shift", 1, 10000)
            self.assertEqual(self.told(surface(points, SQUARE_FACES), "shift", 1, -10000), [0])
            points[at] = (*points[at][:2], -1)
            self.assert_refused(-11, surface(points, SQUARE_FACES), "shift", 1, -10000)
            self.assertEqual(self.told(surface(points, SQUARE_FACES), "shift", 1, 10000), [0])

    def test_from_end_to_end(self):
        level = surface([(0, 0, -10000), (9, 0, -10000), (0, 9, -10000)], [(1, 2, 3)])
        told = ask(load(1, level), call("shift", 1, 10000), call("shift", 1, 10000), call("shift", 1, 1),
                   call("facts", 1), call("shift", 1, 0))
        self.assertEqual(told[1:], [[0], [0], [-11], [0, 3, 1, 3, 81, 10000, 10000], [0]])

    def test_after_other_edits(self):
        told = ask(load(1, PYRAMID), call("shift", 1, 9970), call("raise", 1, 5, 0), call("shift", 1, 30),
                   call("insert", 1, 50, 10, 9999), call("shift", 1, 1), call("facts", 1))
        self.assertEqual(told[1:], [[0], [0], [0], [0, 1], [-11], [0, 6, 6, 4, 20000, 30, 10000]])

    def test_other_slots_stay(self):
        told = ask(load(1, SQUARE), load(2, SQUARE), call("shift", 2, 3), call("text", 1), call("facts", 2))
        self.assertEqual(told[3:], [told_text(SQUARE_POINTS, SQUARE_FACES), [0, 4, 2, 4, 200, -4, 23]])

    def test_refusals(self):
        self.needs_slots("shift", [1, 0], 1)
        self.refuses_outside("shift", [1, 0], 1, -10000, 10000)
        for arguments in ((0, 0), (5, 0), (1, 10001), (1, -10001), (4, 10001)):
            self.assert_refused(-1, SQUARE, "shift", *arguments)
        self.assert_refused(-2, SQUARE, "shift", 4, 10000)


if __name__ == "__main__":
    unittest.main()
