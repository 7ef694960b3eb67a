"""Calls put together by their names, and surfaces that several tests use."""

import unittest

from surveyed.surfaces import answers

NUMBERS = {
    "text": 1, "facts": 2, "height": 3, "volume": 4, "net": 5, "cells": 6,
    "outline": 7, "slope": 8, "steep": 9, "contour": 10, "profile": 11,
}

HUGE = 10 ** 18


def load(slot, text):
    """The numbers of a load; the text is a str, bytes, or a list of numbers."""
    row = list(text.encode("ascii")) if isinstance(text, str) else list(text)
    return [0, slot, len(row)] + row


def call(name, *arguments):
    return [NUMBERS[name], *arguments]


def parted(told):
    """The answers, one list each, of one flat list of answers."""
    found = []
    at = 0
    while at < len(told):
        length = told[at]
        found.append(told[at + 1:at + 1 + length])
        if length < 1 or len(found[-1]) != length:
            raise AssertionError(f"an answer has no such length: {length}")
        at += 1 + length
    return found


def ask(*calls):
    """The answers of the calls, one list each."""
    flat = []
    for one in calls:
        flat.extend(one)
    return parted(answers(flat))


def surface(points, faces):
    """The one text of points and faces."""
    lines = [f"point {x} {y} {z}\n" for x, y, z in points]
    lines += [f"face {a} {b} {c}\n" for a, b, c in faces]
    return "".join(lines)


def grid(columns, rows, step, height):
    """A text of columns times rows points, by rows, with two faces for each square."""
    points = [(x * step, y * step, height(x, y)) for y in range(rows) for x in range(columns)]
    faces = []
    for y in range(rows - 1):
        for x in range(columns - 1):
            a = y * columns + x + 1
            faces.append((a, a + 1, a + columns + 1))
            faces.append((a, a + columns + 1, a + columns))
    return surface(points, faces)


def sixty_faces():
    """A text of a square with 29 points within: 33 points and 60 faces."""
    points = [(0, 0, 0), (9000, 0, 30), (9000, 9000, 60), (0, 9000, 90)]
    faces = [(1, 2, 3), (1, 3, 4)]
    for number in range(5, 34):
        # The middle of a face is within it and on no edge of any.
        at = (number * 7) % len(faces)
        corners = [points[n - 1] for n in faces[at]]
        points.append((sum(p[0] for p in corners) // 3, sum(p[1] for p in corners) // 3, number))
        a, b, c = faces[at]
        faces[at] = (a, b, number)
        faces += [(b, c, number), (c, a, number)]
    return surface(points, faces)


# One face: its height is x + 2 y.
TRIANGLE = surface([(0, 0, 0), (10, 0, 10), (0, 10, 20)], [(1, 2, 3)])

# Two faces that share the edge from 1 to 3.
SQUARE = surface([(0, 0, 0), (10, 0, 6), (10, 10, 20), (0, 10, -7)], [(1, 2, 3), (1, 3, 4)])

# A square with a top in its middle, which is no point of the outline.
PYRAMID = surface(
    [(0, 0, 0), (100, 0, 0), (100, 100, 0), (0, 100, 0), (50, 50, 30)],
    [(1, 2, 5), (2, 3, 5), (3, 4, 5), (4, 1, 5)],
)


class CallCase(unittest.TestCase):
    def told(self, text, *one):
        """What one call answers on the text's surface in slot 1."""
        loaded, answer = ask(load(1, text), call(*one))
        self.assertEqual(loaded[:2], [0, 0], "the test's own text has a fault")
        return answer

    def refuses_outside(self, name, good, position, least, greatest):
        """Both ends of an argument's range are taken, and what lies beyond is refused with -1."""
        for value in (least, greatest):
            self.assertNotEqual(self.with_argument(name, good, position, value), [-1], (name, position, value))
        for value in (least - 1, greatest + 1, -HUGE, HUGE):
            self.assertEqual(self.with_argument(name, good, position, value), [-1], (name, position, value))

    def with_argument(self, name, good, position, value):
        arguments = list(good)
        arguments[position] = value
        loads = [load(slot, TRIANGLE) for slot in (1, 2, 3, 4)]
        return ask(*loads, call(name, *arguments))[-1]

    def needs_slots(self, name, good, how_many):
        """Each of the first arguments is a slot: its range, and -2 where it has no surface."""
        for position in range(how_many):
            self.refuses_outside(name, good, position, 1, 4)
            arguments = list(good)
            arguments[position] = 3
            self.assertEqual(ask(load(1, TRIANGLE), load(2, TRIANGLE), call(name, *arguments)), [
                [0, 0, 3, 1], [0, 0, 3, 1], [-2]])
        self.assertEqual(ask(call(name, *good)), [[-2]])
