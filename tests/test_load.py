"""Promise 0: load, what it reads and which faults it tells."""

import unittest

from tests.helper import HUGE, SQUARE, TRIANGLE, CallCase, ask, call, grid, load, sixty_faces, surface


def loaded(text):
    return ask(load(1, text))[0]


def text_after(text):
    """The one text of what was loaded."""
    answers = ask(load(1, text), call("text", 1))
    return bytes(answers[1][1:]).decode("ascii")


def with_third_line(line):
    """A text with a fault in its third line at the most, behind two points."""
    return "point 0 0 0\npoint 10 0 0\n" + line


class Ordinary(unittest.TestCase):
    def test_counts(self):
        self.assertEqual(loaded(TRIANGLE), [0, 0, 3, 1])
        self.assertEqual(loaded(SQUARE), [0, 0, 4, 2])
        self.assertEqual(loaded(grid(3, 3, 10, lambda x, y: x)), [0, 0, 9, 8])

    def test_the_surface_is_in_its_slot_alone(self):
        for slot in (1, 2, 3, 4):
            answers = ask(load(slot, TRIANGLE), *[call("text", s) for s in (1, 2, 3, 4)])
            for other in (1, 2, 3, 4):
                expected = [0] + list(TRIANGLE.encode()) if other == slot else [-2]
                self.assertEqual(answers[other], expected)

    def test_a_later_load_takes_the_place(self):
        answers = ask(load(2, TRIANGLE), load(2, SQUARE), call("text", 2))
        self.assertEqual(answers[2], [0] + list(SQUARE.encode()))

    def test_end_of_the_text(self):
        self.assertEqual(loaded(TRIANGLE.rstrip("\n")), [0, 0, 3, 1])
        self.assertEqual(loaded(TRIANGLE + "\n\n"), [0, 0, 3, 1])
        self.assertEqual(text_after(TRIANGLE.rstrip("\n")), TRIANGLE)

    def test_faces_among_points(self):
        text = "point 0 0 0\npoint 10 0 6\npoint 10 10 20\nface 1 2 3\npoint 0 10 -7\nface 1 3 4\n"
        self.assertEqual(loaded(text), [0, 0, 4, 2])
        self.assertEqual(text_after(text), SQUARE)

    def test_blanks_empty_lines_and_remarks(self):
        text = ("# a remark\n\n   \n  point   0 0  0  \npoint 10 0 10\n#point 1 1 1\n   #\n# #\n"
                "point 0 10 20\n    face 1    2 3\n #")
        self.assertEqual(loaded(text), [0, 0, 3, 1])
        self.assertEqual(text_after(text), TRIANGLE)

    def test_remarks_hold_any_byte_but_the_line_end(self):
        remark = b"#" + bytes(byte for byte in range(256) if byte != 10) + b"\n"
        self.assertEqual(loaded(remark + TRIANGLE.encode()), [0, 0, 3, 1])

    def test_lines_are_counted_from_1_with_those_that_tell_nothing(self):
        self.assertEqual(loaded("x"), [0, 1, 1])
        self.assertEqual(loaded("\n# r\n  \nx\n"), [0, 1, 4])
        self.assertEqual(loaded(TRIANGLE + "\n\nx"), [0, 1, 7])

    def test_the_first_wrong_line_is_told(self):
        self.assertEqual(loaded("point 0 0 0\npoint 0 0 1\nx\n"), [0, 2, 2])
        self.assertEqual(loaded("x\npoint 0 0 0\npoint 0 0 1\n"), [0, 1, 1])
        # A wrong line is told ahead of a surface that is not sound.
        self.assertEqual(loaded("point 0 0 0\nx\n"), [0, 1, 2])

    def test_faces_told_as_the_clock_goes(self):
        for told, taken in (
            ("1 2 3", "1 2 3"), ("2 3 1", "2 3 1"), ("3 1 2", "3 1 2"),
            ("1 3 2", "1 2 3"), ("2 1 3", "2 3 1"), ("3 2 1", "3 1 2"),
        ):
            text = TRIANGLE.replace("face 1 2 3", "face " + told)
            self.assertEqual(loaded(text), [0, 0, 3, 1])
            self.assertEqual(text_after(text), TRIANGLE.replace("face 1 2 3", "face " + taken))


class Forms(unittest.TestCase):
    """Fault kind 1, and numerals."""

    def assert_no_form(self, line):
        self.assertEqual(loaded(with_third_line(line)), [0, 1, 3], line)
        self.assertEqual(loaded(with_third_line(line + "\npoint 0 10 0\nface 1 2 4\n")), [0, 1, 3], line)

    def test_other_words(self):
        for line in ("x", "Point 0 9 0", "POINT 0 9 0", "points 0 9 0", "poin 0 9 0", "Face 1 2 2", "faces 1 2 2",
                     "fac 1 2 2", "point0 9 0", "x# 1", "0 9 0", "point# 0 9 0", "edge 1 2 2", "point,0,9,0"):
            self.assert_no_form(line)

    def test_counts_of_words(self):
        for line in ("point", "point 0", "point 0 9", "point 0 9 0 0", "point 0 9 0 # r", "point 0 9 0 #",
                     "face", "face 1", "face 1 2", "face 1 2 2 2", "face 1 2 2 # r"):
            self.assert_no_form(line)

    def test_what_is_no_numeral(self):
        for word in ("00", "01", "007", "0000000000", "1234567890", "+1", "1.0", "1e3", "x", "1x", "x1", "0x1",
                     "-", "--1", "1-", "- 1", ".", "/", ":", "1/", "1:", "1_0", "#"):
            self.assert_no_form(f"point {word} 9 0")
            self.assert_no_form(f"point 0 {word} 0")
            self.assert_no_form(f"point 0 9 {word}")
            self.assert_no_form(f"face {word} 2 1")
            self.assert_no_form(f"face 1 {word} 2")
            self.assert_no_form(f"face 1 2 {word}")

    def test_a_minus_stands_before_heights_alone(self):
        for line in ("point -1 9 0", "point 0 -1 0", "point -0 9 0", "face -1 2 2", "face 1 -2 2", "face 1 2 -2"):
            self.assert_no_form(line)
        for word in ("-0", "-00", "-01", "--1", "-", "-1-", "-1234567890", "-x", "-+1"):
            self.assert_no_form(f"point 0 9 {word}")

    def test_blanks_alone_part_words(self):
        for parting in ("\t", "\r", "\x0b", "\x0c", "\x00", ","):
            self.assert_no_form(f"point{parting}0 9 0")
            self.assert_no_form(f"point 0{parting}9 0")
            self.assert_no_form(f"point 0 9 0{parting}")
        self.assertEqual(loaded(b"point 0 0\xa00 0\n"), [0, 1, 1])
        self.assertEqual(loaded("\t"), [0, 1, 1])
        self.assertEqual(loaded("\r\n"), [0, 1, 1])
        self.assertEqual(loaded("\t# no remark"), [0, 1, 1])
        self.assertEqual(loaded(TRIANGLE.replace("\n", "\r")), [0, 1, 1])

    def test_signs_beside_digits(self):
        # The bytes just before 0 and just behind 9.
        self.assertEqual(loaded(b"point 0 9 1\x2f\n"), [0, 1, 1])
        self.assertEqual(loaded(b"point 0 9 1\x3a\n"), [0, 1, 1])
        self.assertEqual(loaded(b"point 0 9 1\xb1\n"), [0, 1, 1])

    def test_numerals_of_one_to_nine_digits(self):
        for digits in range(1, 6):
            number = int("123456789"[:digits])
            if number <= 10000:
                text = surface([(0, 0, -number), (number, 0, number), (0, number, 0)], [(1, 2, 3)])
                self.assertEqual(loaded(text), [0, 0, 3, 1])
                self.assertEqual(text_after(text), text)
        for digits in range(5, 10):
            word = "123456789"[:digits]
            self.assertEqual(loaded(with_third_line(f"point {word} 9 0")), [0, 4, 3])
            self.assertEqual(loaded(with_third_line(f"point 0 {word} 0")), [0, 4, 3])
            self.assertEqual(loaded(with_third_line(f"point 0 9 {word}")), [0, 4, 3])
            self.assertEqual(loaded(with_third_line(f"point 0 9 -{word}")), [0, 4, 3])
            self.assertEqual(loaded(with_third_line(f"face 1 2 {word}")), [0, 3, 3])

    def test_all_digits(self):
        text = surface([(9876, 5432, -1234), (1023, 4567, 8909), (6078, 90, -5)], [(1, 2, 3)])
        self.assertEqual(loaded(text), [0, 0, 3, 1])
        self.assertEqual(text_after(text), text)


class PointFaults(unittest.TestCase):
    def test_range_is_kind_4(self):
        for line, fault in (
            ("point 10000 9 0", [0, 10, 0]), ("point 10001 9 0", [0, 4, 3]),
            ("point 9 10000 0", [0, 10, 0]), ("point 9 10001 0", [0, 4, 3]),
            ("point 0 9 10000", [0, 10, 0]), ("point 0 9 10001", [0, 4, 3]),
            ("point 0 9 -10000", [0, 10, 0]), ("point 0 9 -10001", [0, 4, 3]),
            ("point 999999999 999999999 -999999999", [0, 4, 3]),
        ):
            self.assertEqual(loaded(with_third_line(line)), fault, line)

    def test_ends_of_the_ranges_are_kept(self):
        text = surface([(0, 0, -10000), (10000, 0, 10000), (10000, 10000, 0), (0, 10000, -1)], [(1, 2, 3), (1, 3, 4)])
        self.assertEqual(loaded(text), [0, 0, 4, 2])
        self.assertEqual(text_after(text), text)

    def test_the_same_place_is_kind_2(self):
        self.assertEqual(loaded(with_third_line("point 10 0 0")), [0, 2, 3])
        self.assertEqual(loaded(with_third_line("point 10 0 7")), [0, 2, 3])
        self.assertEqual(loaded(with_third_line("point 0 0 0")), [0, 2, 3])
        self.assertEqual(loaded(with_third_line("point 0 10 0")), [0, 10, 0])

    def test_forty_points(self):
        self.assertEqual(loaded(grid(8, 5, 7, lambda x, y: x - y)), [0, 0, 40, 56])
        points = [f"point {x} {x * x} 0\n" for x in range(41)]
        self.assertEqual(loaded("".join(points[:40])), [0, 10, 0])
        self.assertEqual(loaded("".join(points)), [0, 5, 41])
        faces = "".join(f"face 1 {n} {n + 1}\n" for n in range(2, 40))
        self.assertEqual(loaded("".join(points[:40]) + faces), [0, 0, 40, 38])
        self.assertEqual(loaded("".join(points[:40]) + faces + points[40]), [0, 5, 79])

    def test_order(self):
        forty = "".join(f"point {x} {x * x} 0\n" for x in range(40))
        # 1 ahead of 4, 2 and 5
        self.assertEqual(loaded("point 10001 0 x\n"), [0, 1, 1])
        self.assertEqual(loaded("point 0 0 0\npoint 0 0 00\n"), [0, 1, 2])
        self.assertEqual(loaded(forty + "point 0 0\n"), [0, 1, 41])
        # 4 ahead of 2 and 5
        self.assertEqual(loaded("point 0 0 0\npoint 0 0 10001\n"), [0, 4, 2])
        self.assertEqual(loaded(forty + "point 50 10001 0\n"), [0, 4, 41])
        self.assertEqual(loaded(forty + "point 10001 50 0\n"), [0, 4, 41])
        self.assertEqual(loaded(forty + "point 50 50 -10001\n"), [0, 4, 41])
        # 2 ahead of 5
        self.assertEqual(loaded(forty + "point 39 1521 5\n"), [0, 2, 41])
        self.assertEqual(loaded(forty + "point 50 50 0\n"), [0, 5, 41])


class FaceFaults(unittest.TestCase):
    three = "point 0 0 0\npoint 10 0 0\npoint 20 0 0\n"

    def test_points_that_are_not_told_yet_are_kind_3(self):
        for line in ("face 1 2 4", "face 1 4 2", "face 4 1 2", "face 0 1 2", "face 1 0 2", "face 1 2 0",
                     "face 999999999 1 2", "face 0 0 0", "face 4 4 4"):
            self.assertEqual(loaded(self.three + line), [0, 3, 4], line)
        self.assertEqual(loaded("point 0 0 0\npoint 9 0 0\nface 1 2 3\npoint 0 9 0\nface 1 2 3\n"), [0, 3, 3])
        self.assertEqual(loaded("face 1 2 3\n" + TRIANGLE), [0, 3, 1])

    def test_no_area_is_kind_6(self):
        for line in ("face 1 2 3", "face 3 1 2", "face 2 1 3", "face 1 1 2", "face 1 2 1", "face 2 1 1", "face 3 3 3"):
            self.assertEqual(loaded(self.three + line), [0, 6, 4], line)
        self.assertEqual(loaded("point 1 1 0\npoint 3 4 9\npoint 5 7 0\nface 1 2 3\n"), [0, 6, 4])
        self.assertEqual(loaded("point 1 1 0\npoint 3 4 9\npoint 5 8 0\nface 1 2 3\n"), [0, 0, 3, 1])

    def test_sixty_faces(self):
        text = sixty_faces()
        self.assertEqual(loaded(text), [0, 0, 33, 60])
        self.assertEqual(text_after(text), text)
        self.assertEqual(loaded(text + "face 1 2 3\n"), [0, 5, 94])
        self.assertEqual(loaded(text + "face 1 3 2\n"), [0, 5, 94])

    def test_order(self):
        full = sixty_faces()
        # 1 ahead of 3, 6 and 5
        self.assertEqual(loaded(self.three + "face 9 1 x"), [0, 1, 4])
        self.assertEqual(loaded(self.three + "face 1 1 01"), [0, 1, 4])
        self.assertEqual(loaded(full + "face 1 2"), [0, 1, 94])
        # 3 ahead of 6 and 5
        self.assertEqual(loaded(self.three + "face 1 1 9"), [0, 3, 4])
        self.assertEqual(loaded(full + "face 1 2 34"), [0, 3, 94])
        # 6 ahead of 5
        self.assertEqual(loaded(full + "face 1 2 2"), [0, 6, 94])


class Unsound(unittest.TestCase):
    def assert_kind(self, kind, points, faces):
        placed = [(x, y, at) for at, (x, y) in enumerate(points)]
        self.assertEqual(loaded(surface(placed, faces)), [0, kind, 0])

    def assert_sound(self, points, faces):
        placed = [(x, y, at) for at, (x, y) in enumerate(points)]
        self.assertEqual(loaded(surface(placed, faces)), [0, 0, len(points), len(faces)])

    def test_no_faces_is_kind_10(self):
        for text in ("", "\n", "#", "   ", "# r\n\n"):
            self.assertEqual(loaded(text), [0, 10, 0])
        self.assert_kind(10, [(0, 0), (9, 0), (0, 9)], [])

    def test_a_point_of_no_face_is_kind_11(self):
        self.assert_kind(11, [(0, 0), (9, 0), (0, 9), (9, 9)], [(1, 2, 3)])
        self.assert_kind(11, [(1, 1), (0, 0), (9, 0), (0, 9)], [(2, 3, 4)])
        self.assert_kind(11, [(0, 0), (5, 5), (9, 0), (0, 9)], [(1, 3, 4)])

    def test_an_edge_twice_the_same_way_is_kind_12(self):
        self.assert_kind(12, [(0, 0), (9, 0), (0, 9)], [(1, 2, 3), (1, 2, 3)])
        self.assert_kind(12, [(0, 0), (9, 0), (0, 9)], [(1, 2, 3), (2, 3, 1)])
        self.assert_kind(12, [(0, 0), (9, 0), (0, 9)], [(1, 2, 3), (1, 3, 2)])
        # Both faces lie above the edge from 1 to 2.
        self.assert_kind(12, [(0, 0), (9, 0), (0, 9), (9, 9)], [(1, 2, 3), (1, 2, 4)])
        self.assert_kind(12, [(0, 0), (9, 0), (0, 9), (9, 9)], [(1, 2, 3), (4, 1, 2)])
        self.assert_kind(12, [(0, 0), (9, 0), (0, 9), (9, 9)], [(2, 3, 1), (1, 2, 4)])

    def test_a_rim_of_several_rings_is_kind_13(self):
        apart = [(0, 0), (9, 0), (0, 9), (100, 100), (109, 100), (100, 109)]
        self.assert_kind(13, apart, [(1, 2, 3), (4, 5, 6)])
        self.assert_kind(13, apart, [(4, 5, 6), (1, 2, 3)])

    def test_a_hole_is_kind_13(self):
        corners = [(0, 0), (90, 0), (0, 90), (20, 20), (40, 20), (20, 40)]
        around = [(1, 2, 5), (1, 5, 4), (2, 3, 6), (2, 6, 5), (3, 1, 4), (3, 4, 6)]
        self.assert_kind(13, corners, around)
        self.assert_sound(corners, around + [(4, 5, 6)])

    def test_a_rim_that_comes_to_a_point_twice_is_kind_13(self):
        bow = [(50, 50), (90, 40), (90, 60), (10, 60), (10, 40)]
        self.assert_kind(13, bow, [(1, 2, 3), (1, 4, 5)])
        self.assert_kind(13, bow, [(1, 4, 5), (1, 2, 3)])
        # The same with the common point's number in the middle and at the end.
        self.assert_kind(13, [(90, 40), (90, 60), (50, 50), (10, 60), (10, 40)], [(3, 1, 2), (3, 4, 5)])
        self.assert_kind(13, [(90, 40), (90, 60), (10, 60), (10, 40), (50, 50)], [(5, 1, 2), (5, 3, 4)])

    def test_a_hole_that_touches_the_outline_is_kind_13(self):
        points = [(0, 0), (90, 0), (0, 90), (40, 20), (20, 40)]
        self.assert_kind(13, points, [(1, 2, 4), (2, 3, 5), (2, 5, 4), (3, 1, 5)])
        self.assert_sound(points, [(1, 2, 4), (2, 3, 5), (2, 5, 4), (3, 1, 5), (1, 4, 5)])

    def test_sides_that_cross_are_kind_14(self):
        # A fan round point 1 by more than a whole turn; the last faces lie above the first.
        turn = [(500, 500), (600, 500), (550, 600), (400, 600), (400, 400), (550, 380)]
        faces = [(1, 2, 3), (1, 3, 4), (1, 4, 5), (1, 5, 6)]
        self.assert_sound(turn, faces)
        self.assert_sound(turn + [(700, 490)], faces + [(1, 6, 7)])
        self.assert_kind(14, turn + [(700, 550)], faces + [(1, 6, 7)])
        self.assert_kind(14, turn + [(520, 504)], faces + [(1, 6, 7)])

    def test_neighbour_sides_that_run_back_are_kind_14(self):
        turn = [(500, 500), (600, 500), (550, 600), (400, 600), (400, 400), (550, 380)]
        faces = [(1, 2, 3), (1, 3, 4), (1, 4, 5), (1, 5, 6), (1, 6, 7)]
        self.assert_kind(14, turn + [(700, 500)], faces)
        self.assert_kind(14, turn + [(550, 500)], faces)
        self.assert_sound(turn + [(700, 499)], faces)
        # The same with the numbers told backwards and with the sides upright.
        upright = [(1000 - y, x) for x, y in turn]
        self.assert_kind(14, upright + [(500, 700)], faces)
        self.assert_kind(14, upright + [(500, 550)], faces)
        self.assert_sound(upright + [(501, 700)], faces)
        backwards = [tuple(8 - number for number in face) for face in faces]
        self.assert_kind(14, [(700, 500)] + turn[::-1], backwards)
        self.assert_sound([(700, 499)] + turn[::-1], backwards)

    def test_neighbour_sides_that_run_straight_on_are_sound(self):
        self.assert_sound([(0, 0), (5, 0), (10, 0), (5, 9)], [(1, 2, 4), (2, 3, 4)])
        self.assert_sound([(0, 0), (0, 5), (0, 10), (9, 5)], [(1, 4, 2), (2, 4, 3)])
        self.assert_sound([(0, 0), (5, 5), (10, 10), (9, 0)], [(1, 4, 2), (2, 4, 3)])

    def horseshoe(self, x, y):
        """A strip round three sides of a square; its last point comes near its first side."""
        points = [(100, 100), (140, 100), (100, 200), (140, 160), (200, 200), (160, 160), (200, 100), (x, y)]
        return points, [(1, 2, 3), (2, 4, 3), (3, 4, 5), (4, 6, 5), (5, 6, 7), (6, 8, 7)]

    def test_a_corner_on_a_side_is_kind_14(self):
        self.assert_sound(*self.horseshoe(160, 100))
        self.assert_sound(*self.horseshoe(141, 120))
        self.assert_kind(14, *self.horseshoe(140, 120))
        self.assert_kind(14, *self.horseshoe(139, 120))
        # Sides on one line: apart, and with a point in common.
        self.assert_sound(*self.horseshoe(150, 100))
        self.assert_kind(14, *self.horseshoe(120, 100))

    def test_a_corner_on_a_slanting_side_is_kind_14(self):
        points, faces = self.horseshoe(0, 0)
        slanted = [(x + 2 * y, y) for x, y in points[:-1]]
        self.assert_sound(slanted + [(141 + 240, 120)], faces)
        self.assert_kind(14, slanted + [(140 + 240, 120)], faces)
        mirrored = [(y, 1000 - x) for x, y in points[:-1]]
        self.assert_sound(mirrored + [(120, 1000 - 141)], faces)
        self.assert_kind(14, mirrored + [(120, 1000 - 140)], faces)

    def test_small_ones_are_sound(self):
        # Twice the area of each side with any other corner is 1 or 2.
        self.assert_sound([(0, 0), (1, 1), (1, 2), (0, 1)], [(1, 2, 3), (1, 3, 4)])
        self.assert_sound([(0, 0), (1, 0), (1, 1), (0, 1)], [(1, 2, 3), (1, 3, 4)])
        self.assert_sound([(0, 0), (1, 0), (2, 1), (1, 1)], [(1, 2, 3), (1, 3, 4)])

    def test_outlines_that_bulge_inwards_are_sound(self):
        self.assert_sound([(0, 0), (50, 20), (100, 0), (50, 90)], [(1, 2, 4), (2, 3, 4)])

    def test_order(self):
        # 10 ahead of 11, 11 ahead of 12, 13 and 14, 12 ahead of 13 and 14, 13 ahead of 14.
        self.assert_kind(10, [(0, 0)], [])
        self.assert_kind(11, [(0, 0), (9, 0), (0, 9), (5, 5)], [(1, 2, 3), (1, 2, 3)])
        apart = [(0, 0), (9, 0), (0, 9), (100, 100), (109, 100), (100, 109)]
        self.assert_kind(11, apart + [(50, 50)], [(1, 2, 3), (4, 5, 6)])
        turn = [(500, 500), (600, 500), (550, 600), (400, 600), (400, 400), (550, 380), (700, 550)]
        fan = [(1, 2, 3), (1, 3, 4), (1, 4, 5), (1, 5, 6), (1, 6, 7)]
        self.assert_kind(11, turn + [(0, 0)], fan)
        self.assert_kind(12, apart, [(1, 2, 3), (4, 5, 6), (4, 5, 6)])
        self.assert_kind(12, turn, fan + [(1, 2, 3)])
        across = [(0, 0), (90, 0), (0, 90), (10, 10), (100, 10), (10, 100)]
        self.assert_kind(13, across, [(1, 2, 3), (4, 5, 6)])


class Refusals(CallCase):
    def test_slots(self):
        for slot in (0, 5, -1, HUGE, -HUGE):
            self.assertEqual(ask(load(slot, TRIANGLE)), [[-1]])
        for slot in (1, 4):
            self.assertEqual(ask(load(slot, TRIANGLE)), [[0, 0, 3, 1]])

    def test_bytes(self):
        row = list(TRIANGLE.encode())
        for byte in (-1, 256, HUGE, -HUGE):
            self.assertEqual(ask(load(1, row + [byte])), [[-1]])
            self.assertEqual(ask(load(1, [byte] + row)), [[-1]])
            self.assertEqual(ask(load(1, [35, byte, 10] + row)), [[-1]])
        for byte in (0, 255):
            self.assertEqual(ask(load(1, [35, byte, 10] + row)), [[0, 0, 3, 1]])
            self.assertEqual(ask(load(1, [byte, 10] + row)), [[0, 1, 1]])

    def test_a_refusal_is_told_ahead_of_a_fault(self):
        self.assertEqual(ask(load(1, list(b"x\n") + [256])), [[-1]])
        self.assertEqual(ask(load(5, "x\n")), [[-1]])

    def test_nothing_changes_after_a_refusal_or_a_fault(self):
        for bad, answer in (
            (load(1, "x"), [0, 1, 1]),
            (load(1, SQUARE + "face 1 2 9"), [0, 3, 7]),
            (load(1, ""), [0, 10, 0]),
            (load(1, SQUARE + "point 5 5 5"), [0, 11, 0]),
            (load(1, list(SQUARE.encode()) + [256]), [-1]),
            (load(5, SQUARE), [-1]),
        ):
            first = ask(load(1, TRIANGLE), bad, call("text", 1), call("text", 2))
            self.assertEqual(first, [[0, 0, 3, 1], answer, [0] + list(TRIANGLE.encode()), [-2]])
            self.assertEqual(ask(bad, call("text", 1)), [answer, [-2]])

    def test_a_text_of_3000_bytes(self):
        row = list(TRIANGLE.encode())
        long = row + [35] * (3000 - len(row))
        self.assertEqual(ask(load(1, long), call("text", 1)), [[0, 0, 3, 1], [0] + row])
        self.assertEqual(ask(load(1, [10] * 2999 + [120])), [[0, 1, 3000]])


if __name__ == "__main__":
    unittest.main()
