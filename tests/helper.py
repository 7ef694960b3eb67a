"""Calls put together by their names, and surfaces that several tests use."""

import unittest

from surveyed.surfaces import answers

NUMBERS = {
    "text": 1, "facts": 2, "height": 3, "volume": 4, "net": 5, "cells": 6,
    "outline": 7, "slope": 8, "steep": 9, "contour": 10, "profile": 11, "down": 12,
    "basins": 13, "around": 14, "raise": 15, "insert": 16, "flip": 17, "copy": 18,
    "shift": 19, "same": 21, "find": 22,
}

HUGE = 10 ** 18


def load(slot, text):
    """The numbers of a load; the text is a str, bytes, or a list of numbers."""
    row = list(text.encode("ascii")) if isinstance(text, str) else list(text)
    return [0, slot, len(row)] + row


def call(name, *arguments):
    return [NUMBERS[name], *arguments]


def levels(differences, lengths):
    """The numbers of a levels call with its two rows."""
    return [20, len(differences), *differences, len(lengths), *lengths]


def parted(told):
    """The answers, one list each, of one flat list of answers."""
    found = []
    at = 0
    while at < len(told):
        length = told[at]
        found.append(told[at + 1:at + 1 + length])
        if length < 1 or len(found[-1]) != length:
            raise AssertionError(f"an answer has no such length: {length}")
        at += 1 + length
    return found


def ask(*calls):
    """The answers of the calls, one list each."""
    flat = []
    for one in calls:
        flat.extend(one)
    return parted(answers(flat))


def surface(points, faces):
    """The one text of points and faces."""
    lines = [f"point {x} {y} {z}\n" for x, y, z in points]
    lines += [f"face {a} {b} {c}\n" for a, b, c in faces]
    return "".join(lines)


def grid_parts(columns, rows, step, height):
    """Columns times rows points, by rows, and two faces for each square."""
    points = [(x * step, y * step, height(x, y)) for y in range(rows) for x in range(columns)]
    faces = []
    for y in range(rows - 1):
        for x in range(columns - 1):
            a = y * columns + x + 1
            faces.append((a, a + 1, a + columns + 1))
            faces.append((a, a + columns + 1, a + columns))
    return points, faces


def grid(columns, rows, step, height):
    """The text of a grid."""
    return surface(*grid_parts(columns, rows, step, height))


def grown(points, faces, more):
    """Points and faces with so many more points, each within a face that is parted in three."""
    points, faces = list(points), list(faces)
    for number in range(len(points) + 1, len(points) + more + 1):
        # The middle of a face is within it and on no edge of any.
        at = (number * 7) % len(faces)
        x, y = middle(points, faces[at])
        points.append((x, y, number))
        a, b, c = faces[at]
        faces[at] = (a, b, number)
        faces += [(b, c, number), (c, a, number)]
    return points, faces


def middle(points, face):
    """The whole place next to the middle of a face."""
    corners = [points[n - 1] for n in face]
    return sum(p[0] for p in corners) // 3, sum(p[1] for p in corners) // 3


def sixty_faces():
    """A text of a square with 29 points within: 33 points and 60 faces."""
    points = [(0, 0, 0), (9000, 0, 30), (9000, 9000, 60), (0, 9000, 90)]
    return surface(*grown(points, [(1, 2, 3), (1, 3, 4)], 29))


def largest(height):
    """The points and faces of a grid with more points within: 40 points and 60 faces."""
    return grown(*grid_parts(5, 6, 2000, height), 10)


def looks(points, faces):
    """Calls of every kind that tells of slot 1, where such points and faces are; slot 2 has one too."""
    far = max(max(point[:2]) for point in points)
    found = [call(name, 1) for name in ("text", "facts", "outline", "basins")]
    found += [call("volume", 1, h) for h in (0, -7)]
    found += [call(name, *slots) for name in ("net", "same") for slots in ((1, 2), (2, 1))]
    found += [call("cells", 1, 2, 1000), call("cells", 2, 1, 500), call("cells", 1, 1, 500)]
    found += [call("steep", 1, n, 10) for n in (0, 5, 20)]
    found += [call("contour", 1, h) for h in (-5, 1, 5, 8, 15)]
    found += [call("profile", 1, 0, 0, far, far, 9), call("profile", 1, far, 1, 1, far, 5)]
    for number, (x, y, z) in enumerate(points, start=1):
        found += [call("down", 1, number), call("find", 1, x, y), call("height", 1, 2 * x + 1, 2 * y + 1, 2)]
    for number, face in enumerate(faces, start=1):
        x, y = middle(points, face)
        found += [call("around", 1, number), call("slope", 1, number), call("find", 1, x, y)]
    found += [call(name, 1, len(points if name == "down" else faces) + 1) for name in ("down", "around", "slope")]
    return found


# One face: its height is x + 2 y.
TRIANGLE = surface([(0, 0, 0), (10, 0, 10), (0, 10, 20)], [(1, 2, 3)])

# Two faces that share the edge from 1 to 3.
SQUARE = surface([(0, 0, 0), (10, 0, 6), (10, 10, 20), (0, 10, -7)], [(1, 2, 3), (1, 3, 4)])

# A square with a top in its middle, which is no point of the outline.
PYRAMID = surface(
    [(0, 0, 0), (100, 0, 0), (100, 100, 0), (0, 100, 0), (50, 50, 30)],
    [(1, 2, 5), (2, 3, 5), (3, 4, 5), (4, 1, 5)],
)


def joined(rows):
    return [number for row in rows for number in row]


class CallCase(unittest.TestCase):
    def assert_becomes(self, text, edits, points, faces):
        """After edits in slot 1 each call tells of it what it tells of these points and faces, when loaded."""
        asked = looks(points, faces)
        edited = ask(load(1, text), load(2, text), *edits, *asked)
        fresh = ask(load(1, surface(points, faces)), load(2, text), *asked)
        self.assertEqual(fresh[:2], [[0, 0, len(points), len(faces)], edited[1]], "the test's own surface has a fault")
        for one, answer, expected in zip(asked, edited[-len(asked):], fresh[-len(asked):], strict=True):
            self.assertEqual(answer, expected, one)
        return edited[2:-len(asked)]

    def assert_refused(self, refusal, text, *one):
        """The call is refused in slot 1 and nothing changes in any slot."""
        loads = [load(1, text), load(2, PYRAMID), load(3, SQUARE)]
        texts = [call("text", slot) for slot in (1, 2, 3, 4)]
        told = ask(*loads, *texts, call(*one), *texts)
        self.assertEqual(told[0][:2], [0, 0], "the test's own text has a fault")
        self.assertEqual(told[7], [refusal], one)
        self.assertEqual(told[8:], told[3:7], one)

    def told(self, text, *one):
        """What one call answers on the text's surface in slot 1."""
        loaded, answer = ask(load(1, text), call(*one))
        self.assertEqual(loaded[:2], [0, 0], "the test's own text has a fault")
        return answer

    def refuses_outside(self, name, good, position, least, greatest):
        """Both ends of an argument's range are taken, and what lies beyond is refused with -1."""
        for value in (least, greatest):
            self.assertNotEqual(self.with_argument(name, good, position, value), [-1], (name, position, value))
        for value in (least - 1, greatest + 1, -HUGE, HUGE):
            self.assertEqual(self.with_argument(name, good, position, value), [-1], (name, position, value))

    def with_argument(self, name, good, position, value):
        arguments = list(good)
        arguments[position] = value
        loads = [load(slot, TRIANGLE) for slot in (1, 2, 3, 4)]
        return ask(*loads, call(name, *arguments))[-1]

    def needs_slots(self, name, good, how_many):
        """Each of the first arguments is a slot: its range, and -2 where it has no surface."""
        for position in range(how_many):
            self.refuses_outside(name, good, position, 1, 4)
            arguments = list(good)
            arguments[position] = 3
            self.assertEqual(ask(load(1, TRIANGLE), load(2, TRIANGLE), call(name, *arguments)), [
                [0, 0, 3, 1], [0, 0, 3, 1], [-2]])
        self.assertEqual(ask(call(name, *good)), [[-2]])
