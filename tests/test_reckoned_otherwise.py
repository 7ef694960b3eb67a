"""Many surfaces, each answer held against one that is reckoned in another way, by fractions."""

import random
import unittest
from fractions import Fraction
from math import floor

from tests.helper import ask, call, load, surface


def made_surface(chance):
    """A grid with moved points and chosen diagonals, its points and faces numbered anyhow."""
    columns, rows = chance.randint(2, 6), chance.randint(2, 6)
    step = chance.choice((4, 30, 1600))
    reach = step // 4
    spread = chance.choice((1, 3, 10, 10000))
    places = [(x * step + chance.randint(0, reach), y * step + chance.randint(0, reach))
              for y in range(rows) for x in range(columns)]
    order = list(range(len(places)))
    chance.shuffle(order)
    points = [None] * len(places)
    for old, new in enumerate(order):
        points[new] = (*places[old], chance.randint(-spread, spread))
    faces = []
    for y in range(rows - 1):
        for x in range(columns - 1):
            a = y * columns + x
            b, c, d = a + 1, a + columns + 1, a + columns
            # Points are moved by a quarter of a step at most, so that either diagonal lies within.
            faces += [(a, b, c), (a, c, d)] if chance.randint(0, 1) else [(b, c, d), (b, d, a)]
    chance.shuffle(faces)
    numbered = []
    for face in faces:
        turn = chance.randint(0, 2)
        numbers = [order[corner] + 1 for corner in face]
        numbered.append(tuple(numbers[turn:] + numbers[:turn]))
    return points, numbered


def area(a, b, c):
    return (b[0] - a[0]) * (c[1] - a[1]) - (b[1] - a[1]) * (c[0] - a[0])


def plane(points, face):
    """The rise to the right, the rise away and the height at (0, 0)."""
    (ax, ay, az), (bx, by, bz), (cx, cy, cz) = [points[n - 1] for n in face]
    bottom = (bx - ax) * (cy - ay) - (cx - ax) * (by - ay)
    right = Fraction((bz - az) * (cy - ay) - (cz - az) * (by - ay), bottom)
    away = Fraction((cz - az) * (bx - ax) - (bz - az) * (cx - ax), bottom)
    return right, away, az - right * ax - away * ay


def heights(points, faces, x, y):
    """The heights by all faces that the place is within."""
    found = []
    for face in faces:
        corners = [points[n - 1] for n in face]
        turns = [area(corners[k - 1], corners[k], (x, y)) for k in range(3)]
        if min(turns) >= 0:
            right, away, base = plane(points, face)
            found.append(right * x + away * y + base)
    return found


def told_height(points, faces, x, y):
    found = heights(points, faces, x, y)
    return [1, found[0].numerator, found[0].denominator] if found else [0]


def contour(points, faces, h):
    """The lines of a contour, by taking the least whole line again and again."""
    def crossed(a, b):
        return (points[a - 1][2] < h) != (points[b - 1][2] < h)

    joints = []
    for a, b, c in faces:
        cut = [tuple(sorted(edge)) for edge in ((a, b), (b, c), (c, a)) if crossed(*edge)]
        if cut:
            joints.append(cut)
    lines = []
    while joints:
        line = list(joints.pop())
        grown = True
        while grown:
            grown = False
            for joint in joints:
                for first, second in (joint, joint[::-1]):
                    if not grown and line[-1] == first and joint in joints:
                        line.append(second)
                        joints.remove(joint)
                        grown = True
                    elif not grown and line[0] == first and joint in joints:
                        line.insert(0, second)
                        joints.remove(joint)
                        grown = True
                if grown:
                    break
        lines.append(line)
    opened = [min(line, line[::-1]) for line in lines if line[0] != line[-1]]
    rings = []
    for line in lines:
        if line[0] == line[-1]:
            around = line[1:]
            start = around.index(min(around))
            around = around[start:] + around[:start]
            rings.append(min(around, around[:1] + around[:0:-1]))
    told = [len(lines)]
    for ring, group in ((0, sorted(opened)), (1, sorted(rings))):
        for line in group:
            told += [ring, len(line)]
            for a, b in line:
                (ax, ay, az), (bx, by, bz) = points[a - 1], points[b - 1]
                part = Fraction(h - az, bz - az)
                for place in (ax + part * (bx - ax), ay + part * (by - ay)):
                    told += [place.numerator, place.denominator]
    return told


class Reckoned(unittest.TestCase):
    def surfaces(self):
        chance = random.Random(20)
        for turn in range(60):
            points, faces = made_surface(chance)
            yield chance, points, faces, surface(points, faces)

    def test_they_are_sound(self):
        for chance, points, faces, text in self.surfaces():
            self.assertEqual(ask(load(2, text), call("text", 2)), [
                [0, 0, len(points), len(faces)], [0] + list(text.encode())])

    def test_facts_and_volume(self):
        for chance, points, faces, text in self.surfaces():
            h = chance.randint(-20, 20)
            twice = [area(*[points[n - 1] for n in face]) for face in faces]
            edges = [edge for a, b, c in faces for edge in ((a, b), (b, c), (c, a))]
            rim = [edge for edge in edges if edge[::-1] not in edges]
            six_times = 0
            for face, size in zip(faces, twice):
                middle = sum(Fraction(points[n - 1][2] - h, 3) for n in face)
                six_times += 3 * size * middle
            all_heights = [point[2] for point in points]
            told = ask(load(1, text), call("facts", 1), call("volume", 1, h), call("outline", 1))
            self.assertEqual(told[1:3], [
                [0, len(points), len(faces), len(rim), sum(twice), min(all_heights), max(all_heights)],
                [0, six_times]])
            ring = told[3][1:]
            self.assertEqual(sorted(zip(ring, ring[1:] + ring[:1])), sorted(rim))
            self.assertEqual(ring[0], min(ring))

    def test_heights(self):
        for chance, points, faces, text in self.surfaces():
            far = max(max(point[:2]) for point in points) + 1
            for turn in range(30):
                d = chance.randint(1, 1000) if turn % 2 else chance.randint(1, 3)
                x, y = chance.randint(0, far * d), chance.randint(0, far * d)
                found = heights(points, faces, Fraction(x, d), Fraction(y, d))
                self.assertLessEqual(len(set(found)), 1)
                self.assertEqual(ask(load(1, text), call("height", 1, x, y, d))[1],
                                 [0] + told_height(points, faces, Fraction(x, d), Fraction(y, d)))

    def test_profiles(self):
        for chance, points, faces, text in self.surfaces():
            far = max(max(point[:2]) for point in points)
            x1, y1, x2, y2 = [chance.randint(0, far) for end in range(4)]
            n = chance.randint(1, 50)
            expected = [0]
            for at in range(n + 1):
                x, y = x1 + Fraction(at, n) * (x2 - x1), y1 + Fraction(at, n) * (y2 - y1)
                expected += told_height(points, faces, x, y)
            self.assertEqual(ask(load(1, text), call("profile", 1, x1, y1, x2, y2, n))[1], expected)

    def test_slopes(self):
        for chance, points, faces, text in self.surfaces():
            n, d = chance.randint(0, 30), chance.randint(1, 30)
            steep = []
            for number, face in enumerate(faces, start=1):
                right, away, base = plane(points, face)
                self.assertEqual(ask(load(1, text), call("slope", 1, number))[1], [
                    0, right.numerator, right.denominator, away.numerator, away.denominator])
                if right * right + away * away > Fraction(n * n, d * d):
                    steep.append(number)
            self.assertEqual(ask(load(1, text), call("steep", 1, n, d))[1], [0] + steep)

    def test_contours(self):
        for chance, points, faces, text in self.surfaces():
            spread = max(abs(point[2]) for point in points)
            for turn in range(6):
                h = chance.randint(-spread, spread) if turn else chance.choice(points)[2]
                self.assertEqual(ask(load(1, text), call("contour", 1, h))[1], [0] + contour(points, faces, h))

    def test_cells_and_net(self):
        for chance, points, faces, text in self.surfaces():
            after = [(x, y, max(-10000, min(10000, z + chance.randint(-7, 9)))) for x, y, z in points]
            g = 2 * chance.randint(250, 1500)
            told = [0, 0, 0, 0]
            for x in range(g // 2, 10001 - g // 2, g):
                for y in range(g // 2, 10001 - g // 2, g):
                    before = heights(points, faces, x, y)
                    if before:
                        change = floor(heights(after, faces, x, y)[0]) - floor(before[0])
                        told[1] += 1
                        told[2 if change < 0 else 3] += abs(change)
            six_times = 0
            for face in faces:
                size = area(*[points[n - 1] for n in face])
                six_times += size * sum(after[n - 1][2] - points[n - 1][2] for n in face)
            loads = load(1, text), load(2, surface(after, faces))
            self.assertEqual(ask(*loads, call("cells", 1, 2, g), call("net", 1, 2))[2:], [told, [0, six_times]])


def kind_of(points, faces):
    """The kind by which faces told against the clock are not sound, else 0."""
    if not faces:
        return 10
    if {n for face in faces for n in face} != set(range(1, len(points) + 1)):
        return 11
    edges = [edge for a, b, c in faces for edge in ((a, b), (b, c), (c, a))]
    if any(edges.count(edge) > 1 for edge in edges):
        return 12
    rim = [edge for edge in edges if edge[::-1] not in edges]
    if any([edge[0] for edge in rim].count(a) > 1 for a, b in rim):
        return 13
    reached = [rim[0]]
    while len(reached) < len(rim):
        onward = [edge for edge in rim if edge[0] == reached[-1][1]][0]
        if onward in reached:
            return 13
        reached.append(onward)
    for first in rim:
        for second in rim:
            if first != second and common(points, first, second) - (set(first) & set(second)):
                return 14
    return 0


def common(points, first, second):
    """What both sides have: the numbers of ends that lie on both, "between" for a place that is no end."""
    a, b = [points[n - 1][:2] for n in first]
    c, d = [points[n - 1][:2] for n in second]
    found = set()
    for number, place in zip(first, (a, b)):
        if on_side(c, d, place):
            found.add(number)
    for number, place in zip(second, (c, d)):
        if on_side(a, b, place):
            found.add(number)
    bottom = (b[0] - a[0]) * (d[1] - c[1]) - (b[1] - a[1]) * (d[0] - c[0])
    if bottom != 0:
        along = Fraction((c[0] - a[0]) * (d[1] - c[1]) - (c[1] - a[1]) * (d[0] - c[0]), bottom)
        other = Fraction((c[0] - a[0]) * (b[1] - a[1]) - (c[1] - a[1]) * (b[0] - a[0]), bottom)
        if 0 < along < 1 and 0 < other < 1:
            found.add("between")
    return found


def on_side(a, b, place):
    return (area(a, b, place) == 0 and min(a[0], b[0]) <= place[0] <= max(a[0], b[0])
            and min(a[1], b[1]) <= place[1] <= max(a[1], b[1]))


class Soundness(unittest.TestCase):
    def assert_kind(self, points, faces):
        kind = kind_of(points, faces)
        expected = [0, kind, 0] if kind else [0, 0, len(points), len(faces)]
        self.assertEqual(ask(load(1, surface(points, faces)))[0], expected)
        return kind

    def test_faces_put_on_one_after_another(self):
        # Each new face stands on a side of the rim, so that most kinds come only from where it leads.
        chance = random.Random(7)
        kinds = []
        for turn in range(400):
            places = [(x, y) for x in range(6) for y in range(6)]
            chance.shuffle(places)
            points = [(x, y, 0) for x, y in places[:chance.randint(4, 9)]]
            faces = []
            while not faces:
                face = chance.sample(range(1, len(points) + 1), 3)
                if area(*[points[n - 1] for n in face]) > 0:
                    faces.append(tuple(face))
            for more in range(len(points) * 2):
                used = [edge for a, b, c in faces for edge in ((a, b), (b, c), (c, a))]
                a, b = chance.choice(used)
                c = chance.randint(1, len(points))
                new = ((b, a), (a, c), (c, b))
                if area(points[b - 1], points[a - 1], points[c - 1]) > 0 and not set(new) & set(used):
                    faces.append((b, a, c))
            kept = sorted({n for face in faces for n in face})
            points = [points[n - 1] for n in kept]
            faces = [tuple(kept.index(n) + 1 for n in face) for face in faces]
            kinds.append(self.assert_kind(points, faces))
        for kind in (0, 13, 14):
            self.assertGreater(kinds.count(kind), 3, kind)

    def test_faces_taken_anyhow(self):
        chance = random.Random(8)
        kinds = []
        for turn in range(400):
            places = [(x, y) for x in range(4) for y in range(4)]
            chance.shuffle(places)
            points = [(x, y, 0) for x, y in places[:chance.randint(3, 5)]]
            faces = []
            for more in range(chance.randint(0, 4)):
                face = tuple(chance.sample(range(1, len(points) + 1), 3))
                if area(*[points[n - 1] for n in face]) > 0:
                    faces.append(face)
            kinds.append(self.assert_kind(points, faces))
        for kind in (0, 10, 11, 12):
            self.assertGreater(kinds.count(kind), 3, kind)


if __name__ == "__main__":
    unittest.main()
