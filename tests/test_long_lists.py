"""Long lists of calls of all kinds, held against slots that are kept and reckoned in another way."""

import random
import unittest
from fractions import Fraction
from math import floor

from surveyed.surfaces import answers
from tests.helper import call, grid_parts, grown, joined, largest, levels, load, middle, parted, surface
from tests.test_reckoned_otherwise import area, contour, heights, made_surface, plane, told_height

RANGES = {
    "height": ((0, 10000000), (0, 10000000), (1, 1000)),
    "volume": ((-10000, 10000),),
    "cells": ((500, 5000),),
    "slope": ((1, 200),),
    "steep": ((0, 1000), (1, 1000)),
    "contour": ((-10000, 10000),),
    "profile": ((0, 10000), (0, 10000), (0, 10000), (0, 10000), (1, 50)),
    "down": ((1, 200),),
    "around": ((1, 200),),
    "raise": ((1, 200), (-10000, 10000)),
    "insert": ((0, 10000), (0, 10000), (-10000, 10000)),
    "flip": ((1, 200), (1, 200)),
    "shift": ((-10000, 10000),),
    "find": ((0, 10000), (0, 10000)),
}
TWO_SLOTS = ("net", "cells", "same", "copy")
SLOW = ("cells", "contour")
QUICK = [name for name in RANGES if name not in SLOW]
QUICK += ["net", "same", "copy", "text", "facts", "outline", "basins", "levels", "flip", "insert"]


def edges_of(face):
    a, b, c = face
    return [(a, b), (b, c), (c, a)]


def ring_of(faces):
    edges = [edge for face in faces for edge in edges_of(face)]
    onward = {a: b for a, b in edges if (b, a) not in edges}
    ring = [min(onward)]
    while onward[ring[-1]] != ring[0]:
        ring.append(onward[ring[-1]])
    return ring


def places_of(points, faces):
    ring = [points[n - 1][:2] for n in ring_of(faces)]
    return min(ring[at:] + ring[:at] for at in range(len(ring)))


def six_times(points, faces, h):
    return sum(area(*[points[n - 1] for n in face]) * sum(points[n - 1][2] - h for n in face) for face in faces)


def within(points, faces, place):
    """The faces, from 0 on, within which the place is, each with how many of its edges the place is on."""
    found = {}
    for at, face in enumerate(faces):
        turns = [area(points[a - 1], points[b - 1], place) for a, b in edges_of(face)]
        if min(turns) >= 0:
            found[at] = turns.count(0)
    return found


def way(points, faces, number):
    found = [number]
    while True:
        x, y, z = points[found[-1] - 1]
        near = {n for face in faces for n in face if found[-1] in face}
        falls = []
        for other in near:
            ox, oy, oz = points[other - 1]
            if oz < z:
                falls.append((Fraction((z - oz) ** 2, (x - ox) ** 2 + (y - oy) ** 2), -other))
        if not falls:
            return found
        found.append(-max(falls)[1])


class Slots:
    """What the calls answer, kept as lists of points and faces."""

    def __init__(self):
        self.kept = {}

    def answer(self, name, slots, arguments):
        asked = slots[:1] if name == "copy" else slots
        if any(not 1 <= slot <= 4 for slot in slots):
            return [-1]
        ranges = RANGES.get(name, ())
        if any(not least <= value <= most for value, (least, most) in zip(arguments, ranges, strict=True)):
            return [-1]
        if any(slot not in self.kept for slot in asked):
            return [-2]
        if name == "copy":
            points, faces = self.kept[slots[0]]
            self.kept[slots[1]] = (list(points), list(faces))
            return [0]
        surfaces = [part for slot in slots for part in self.kept[slot]]
        told = getattr(self, "tell_" + name)(*surfaces, *arguments)
        return [told] if isinstance(told, int) and told < 0 else [0, *(told or [])]

    def tell_text(self, points, faces):
        return surface(points, faces).encode()

    def tell_facts(self, points, faces):
        sizes = [area(*[points[n - 1] for n in face]) for face in faces]
        tops = [z for x, y, z in points]
        return len(points), len(faces), len(ring_of(faces)), sum(sizes), min(tops), max(tops)

    def tell_height(self, points, faces, x, y, d):
        return told_height(points, faces, Fraction(x, d), Fraction(y, d))

    def tell_volume(self, points, faces, h):
        return [six_times(points, faces, h)]

    def tell_net(self, points, faces, later, others):
        if places_of(points, faces) != places_of(later, others):
            return -5
        return [six_times(later, others, 0) - six_times(points, faces, 0)]

    def tell_cells(self, points, faces, later, others, g):
        if g % 2:
            return -6
        changes = []
        for x in range(g // 2, 10001 - g // 2, g):
            for y in range(g // 2, 10001 - g // 2, g):
                before, after = heights(points, faces, x, y), heights(later, others, x, y)
                if before and after:
                    changes.append(floor(after[0]) - floor(before[0]))
        return len(changes), -sum(c for c in changes if c < 0), sum(c for c in changes if c > 0)

    def tell_outline(self, points, faces):
        return ring_of(faces)

    def tell_slope(self, points, faces, face):
        if face > len(faces):
            return -4
        right, away, base = plane(points, faces[face - 1])
        return right.numerator, right.denominator, away.numerator, away.denominator

    def tell_steep(self, points, faces, n, d):
        found = []
        for number, face in enumerate(faces, start=1):
            right, away, base = plane(points, face)
            if right ** 2 + away ** 2 > Fraction(n, d) ** 2:
                found.append(number)
        return found

    def tell_contour(self, points, faces, h):
        return contour(points, faces, h)

    def tell_profile(self, points, faces, x1, y1, x2, y2, n):
        told = []
        for at in range(n + 1):
            part = Fraction(at, n)
            told += told_height(points, faces, x1 + part * (x2 - x1), y1 + part * (y2 - y1))
        return told

    def tell_down(self, points, faces, number):
        return way(points, faces, number) if number <= len(points) else -3

    def tell_basins(self, points, faces):
        return [way(points, faces, number)[-1] for number in range(1, len(points) + 1)]

    def tell_around(self, points, faces, number):
        if number > len(faces):
            return -4
        beside = []
        for a, b in edges_of(faces[number - 1]):
            beside.append(sum(at for at, face in enumerate(faces, start=1) if (b, a) in edges_of(face)))
        return [*faces[number - 1], *beside]

    def tell_find(self, points, faces, x, y):
        return [at + 1 for at in sorted(within(points, faces, (x, y)))]

    def tell_same(self, points, faces, later, others):
        return int((points, faces) == (later, others)), int(places_of(points, faces) == places_of(later, others))

    def tell_shift(self, points, faces, z):
        moved = [(x, y, height + z) for x, y, height in points]
        if any(not -10000 <= point[2] <= 10000 for point in moved):
            return -11
        points[:] = moved

    def tell_raise(self, points, faces, number, z):
        if number > len(points):
            return -3
        points[number - 1] = (*points[number - 1][:2], z)

    def tell_insert(self, points, faces, x, y, z):
        if len(points) == 40 or len(faces) > 58:
            return -7
        holding = [at for at, edges in within(points, faces, (x, y)).items() if edges == 0]
        if not holding:
            return -8
        points.append((x, y, z))
        a, b, c = faces[holding[0]]
        faces[holding[0]] = (a, b, len(points))
        faces += [(b, c, len(points)), (c, a, len(points))]
        return [holding[0] + 1]

    def tell_flip(self, points, faces, face, other):
        if max(face, other) > len(faces):
            return -4
        first, second = faces[face - 1], faces[other - 1]
        for turn in range(3):
            e, f, p = first[turn:] + first[:turn]
            for back in range(3):
                g, h, q = second[back:] + second[:back]
                if (g, h) == (f, e):
                    ring = [points[n - 1] for n in (p, e, q, f)] * 2
                    if any(area(*ring[at:at + 3]) <= 0 for at in range(4)):
                        return -10
                    faces[face - 1], faces[other - 1] = (p, e, q), (q, f, p)
                    return None
        return -9


class Lists:
    """A list of calls by chance, with the answers that are due."""

    def __init__(self, seed, loaded):
        self.chance = random.Random(seed)
        self.slots = Slots()
        self.calls = []
        self.due = []
        for slot, (points, faces) in loaded.items():
            self.load(slot, points, faces)

    def load(self, slot, points, faces):
        self.calls.append(load(slot, surface(points, faces)))
        self.due.append([0, 0, len(points), len(faces)])
        self.slots.kept[slot] = (list(points), list(faces))

    def levels(self):
        count = self.chance.randint(1, 30)
        differences = [self.chance.randint(-1000, 1000) for one in range(count)]
        lengths = [self.chance.randint(1, 1000) for one in range(count)]
        part = Fraction(-sum(differences), sum(lengths))
        sums = [floor(part * sum(lengths[:at])) for at in range(count + 1)]
        self.calls.append(levels(differences, lengths))
        self.due.append([0, sum(differences), *[b - a for a, b in zip(sums, sums[1:])]])

    def ask(self, name, slots, arguments):
        self.calls.append(call(name, *slots, *arguments))
        self.due.append(self.slots.answer(name, slots, arguments))

    def add(self):
        """One more call, mostly with arguments for which there is something to tell."""
        chance = self.chance
        # Of 300 calls 20 are cells or contour.
        names = SLOW if len(self.calls) % 15 == 14 else QUICK
        name = chance.choice(names)
        if name == "levels":
            return self.levels()
        slots = [chance.randint(1, 4) for slot in range(2 if name in TWO_SLOTS else 1)]
        if chance.randint(0, 60) == 0:
            slots[-1] = chance.choice((0, 5))
        arguments = [chance.randint(least, most) for least, most in RANGES.get(name, ())]
        if slots[0] in self.slots.kept:
            self.aim(name, *self.slots.kept[slots[0]], arguments)
        if arguments and chance.randint(0, 40) == 0:
            arguments[chance.randrange(len(arguments))] = chance.choice((-10001, 10000001, 10 ** 18, -10 ** 18))
        self.ask(name, slots, arguments)

    def aim(self, name, points, faces, arguments):
        chance = self.chance
        if chance.randint(0, 9) == 0:
            return
        if name in ("contour", "volume"):
            arguments[0] = chance.choice(points)[2]
        elif name in ("down", "raise"):
            arguments[0] = chance.randint(1, len(points))
        elif name in ("slope", "around"):
            arguments[0] = chance.randint(1, len(faces))
        elif name == "flip":
            edge = chance.choice(edges_of(chance.choice(faces)))
            beside = [at for at, face in enumerate(faces, start=1) if set(edge) <= set(face)]
            arguments[0], arguments[1] = beside[0], beside[-1]
        elif name == "cells":
            arguments[0] = chance.choice((500, 600, 1250))
        elif name == "shift":
            arguments[0] = chance.randint(-9, 9)
        elif name == "height":
            far = max(max(point[:2]) for point in points)
            arguments[:2] = [chance.randint(0, far * arguments[2]) for coordinate in range(2)]
        elif name in ("find", "insert"):
            place = chance.choice((chance.choice(points)[:2], middle(points, chance.choice(faces))))
            arguments[:2] = place
        elif name == "profile":
            arguments[:4] = chance.choice(points)[:2] + chance.choice(points)[:2]
        elif name == "steep" and chance.randint(0, 1):
            arguments[:] = [chance.randint(0, 10), 1000]


class LongLists(unittest.TestCase):
    def assert_answered(self, lists):
        flat = joined(lists.calls)
        self.assertLessEqual(len(flat), 17000)
        before = list(flat)
        told = answers(flat)
        self.assertEqual(flat, before)
        self.assertLess(len(told), 1000000)
        for one, answer, due in zip(lists.calls, parted(told), lists.due, strict=True):
            self.assertEqual(answer, due, one[:10])
        self.assertEqual(answers(flat), told)
        self.assertEqual(flat, before)
        self.assertEqual({type(number) for number in told}, {int})

    def test_300_calls_of_all_kinds_on_the_largest_surfaces(self):
        for seed in (1, 2, 3, 4):
            loaded = {}
            for slot in (1, 2, 3, 4):
                loaded[slot] = largest(lambda x, y: (x * 37 + y * 53 + slot * x * y * seed) % 90 - 40)
                self.assertEqual([len(part) for part in loaded[slot]], [40, 60])
            lists = Lists(seed, loaded)
            while len(lists.calls) < 300:
                lists.add()
            numbers = [one[0] for one in lists.calls]
            self.assertEqual(numbers.count(6) + numbers.count(10), 20)
            self.assertEqual(set(numbers), set(range(23)))
            self.assert_answered(lists)

    def test_300_calls_on_surfaces_that_grow(self):
        refusals = set()
        for seed in range(5, 11):
            first = grid_parts(5, 5, 2400, lambda x, y: (x * 7 + y * 5) % 9)
            lists = Lists(seed, {1: grid_parts(2, 2, 9000, lambda x, y: x + y), 2: grown(*first, 13)})
            while len(lists.calls) < 300:
                lists.add()
                if lists.chance.randint(0, 60) == 0:
                    lists.load(lists.chance.randint(1, 4), *grid_parts(3, 3, 4500, lambda x, y: x * y - 3))
            self.assert_answered(lists)
            refusals.update(due[0] for due in lists.due if due[0] < 0)
        # -12 has tests of its own; each of the others came at least once.
        self.assertEqual(refusals, set(range(-11, 0)))

    def test_surfaces_numbered_anyhow(self):
        for seed in range(20, 40):
            chance = random.Random(seed)
            lists = Lists(seed, {slot: made_surface(chance) for slot in (1, 2, 3)})
            while len(lists.calls) < 150:
                lists.add()
            self.assert_answered(lists)

    def test_20_cells_and_280_profiles(self):
        lists = Lists(0, {slot: largest(lambda x, y: x * y * slot - 40) for slot in (1, 2)})
        for at in range(20):
            lists.ask("cells", [1 + at % 2, 2], [500])
        while len(lists.calls) < 300:
            lists.ask("raise", [1], [1 + len(lists.calls) % 40, len(lists.calls)])
            lists.ask("profile", [1], [0, 10000, 8000, len(lists.calls), 50])
        self.assertEqual(len(lists.calls), 300)
        self.assert_answered(lists)

    def test_edits_in_each_slot_leave_the_others(self):
        lists = Lists(0, {slot: grid_parts(3, 3, 100, lambda x, y: x + 3 * y) for slot in (1, 2, 3, 4)})
        for slot in (1, 2, 3, 4):
            for name, arguments in (("raise", [5, 90]), ("insert", [120, 110, 7]), ("flip", [1, 2]), ("shift", [slot])):
                lists.ask(name, [slot], arguments)
                for other in (1, 2, 3, 4):
                    lists.ask("text", [other], [])
                    lists.ask("same", [slot, other], [])
        self.assert_answered(lists)


if __name__ == "__main__":
    unittest.main()
