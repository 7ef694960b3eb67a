"""The interface: lists of calls in, lists of answers out."""

import unittest

from surveyed.surfaces import answers
from tests.helper import PYRAMID, SQUARE, TRIANGLE, ask, call, grid, joined, levels, load, sixty_faces

EVERY_CALL = [
    load(1, TRIANGLE), load(2, SQUARE), load(3, PYRAMID), load(4, "point 0 0 0\n"), load(4, "x"), load(0, ""),
    call("text", 1), call("text", 4), call("facts", 2), call("height", 3, 50, 49, 1), call("height", 3, 101, 0, 1),
    call("volume", 2, 5), call("net", 1, 1), call("net", 1, 2), call("cells", 1, 2, 500), call("cells", 1, 2, 501),
    call("outline", 3), call("slope", 2, 2), call("slope", 2, 3), call("steep", 3, 1, 2), call("contour", 3, 6),
    call("profile", 1, 0, 0, 10, 10, 4), call("facts", 0),
    call("down", 2, 2), call("down", 2, 5), call("basins", 2), call("around", 3, 2), call("around", 3, 5),
    levels([3, -1], [1, 3]), levels([3, -1], [1]), levels([], []), call("same", 1, 2), call("same", 2, 2),
    call("find", 2, 5, 5), call("find", 2, 11, 5),
]

EVERY_EDIT = [
    call("copy", 3, 4), call("raise", 4, 5, -1), call("raise", 4, 6, 0), call("insert", 1, 3, 3, 7),
    call("insert", 1, 5, 5, 7), call("flip", 2, 2, 1), call("flip", 2, 2, 2), call("flip", 2, 1, 3),
    call("shift", 2, 10), call("shift", 2, 9990), call("text", 1), call("text", 2), call("text", 3), call("text", 4),
]

EVERY_ANSWER = [
    [0, 0, 3, 1], [0, 0, 4, 2], [0, 0, 5, 4], [0, 10, 0], [0, 1, 1], [-1],
    [0] + list(TRIANGLE.encode()), [-2], [0, 4, 2, 4, 200, -7, 20], [0, 1, 147, 5], [0, 0],
    [0, 900], [0, 0], [-5], [0, 0, 0, 0], [-6],
    [0, 1, 2, 3, 4], [0, 27, 10, -7, 10], [-4], [0, 1, 2, 3, 4],
    [0, 1, 1, 4, 10, 1, 10, 1, 90, 1, 10, 1, 90, 1, 90, 1, 10, 1, 90, 1],
    [0, 1, 0, 1, 1, 15, 2, 1, 15, 1, 0, 0], [-1],
    [0, 2, 1, 4], [-3], [0, 4, 4, 4, 4], [0, 2, 3, 5, 0, 3, 1], [-4],
    [0, 2, -1, -1], [-12], [-1], [0, 0, 0], [0, 1, 1],
    [0, 1, 2], [0],
]

EVERY_CHANGE = [
    [0], [0], [-3], [0, 1], [-8], [0], [-9], [-4], [0], [-11],
    [0] + list(b"point 0 0 0\npoint 10 0 10\npoint 0 10 20\npoint 3 3 7\nface 1 2 4\nface 2 3 4\nface 3 1 4\n"),
    [0] + list(b"point 0 0 10\npoint 10 0 16\npoint 10 10 30\npoint 0 10 3\nface 2 3 4\nface 4 1 2\n"),
    [0] + list(PYRAMID.encode()), [0] + list(PYRAMID.replace("50 50 30", "50 50 -1").encode()),
]


class Interface(unittest.TestCase):
    def test_each_answer_stands_behind_its_length(self):
        told = answers(joined(EVERY_CALL + EVERY_EDIT))
        self.assertEqual(told, joined([len(answer)] + answer for answer in EVERY_ANSWER + EVERY_CHANGE))

    def test_one_call(self):
        self.assertEqual(answers(call("text", 1)), [1, -2])
        self.assertEqual(answers(call("text", 0)), [1, -1])
        self.assertEqual(answers(load(1, "")), [3, 0, 10, 0])
        self.assertEqual(answers(load(1, TRIANGLE)), [4, 0, 0, 3, 1])

    def test_the_list_is_not_changed(self):
        calls = joined(EVERY_CALL + EVERY_EDIT)
        before = list(calls)
        answers(calls)
        self.assertEqual(calls, before)

    def test_the_same_list_twice(self):
        calls = joined(EVERY_CALL + EVERY_EDIT)
        first = answers(calls)
        self.assertEqual(answers(calls), first)
        self.assertIsNot(answers(calls), first)

    def test_nothing_is_kept(self):
        answers(joined([load(slot, TRIANGLE) for slot in (1, 2, 3, 4)]))
        self.assertEqual(ask(*[call("facts", slot) for slot in (1, 2, 3, 4)]), [[-2]] * 4)

    def test_what_was_answered_is_not_kept(self):
        calls = joined(EVERY_CALL + EVERY_EDIT)
        told = answers(calls)
        expected = list(told)
        told.clear()
        self.assertEqual(answers(calls), expected)

    def test_whole_numbers_in_one_plain_list(self):
        told = answers(joined(EVERY_CALL + EVERY_EDIT))
        self.assertIs(type(told), list)
        self.assertEqual({type(number) for number in told}, {int})

    def test_four_slots(self):
        texts = [TRIANGLE, SQUARE, PYRAMID, grid(3, 3, 10, lambda x, y: y)]
        loads = [load(slot, text) for slot, text in enumerate(texts, start=1)]
        told = ask(*loads, *[call("text", slot) for slot in (4, 3, 2, 1)])
        self.assertEqual(told[4:], [[0] + list(text.encode()) for text in reversed(texts)])

    def test_nothing_changes_by_what_only_tells(self):
        asked = [one for one in EVERY_CALL if one[0] != 0]
        told = ask(load(1, TRIANGLE), load(2, SQUARE), load(3, PYRAMID), *asked, *asked)
        self.assertEqual(told[3:3 + len(asked)], told[3 + len(asked):])
        texts = ask(load(1, TRIANGLE), load(2, SQUARE), load(3, PYRAMID), *asked, *[call("text", s) for s in (1, 2, 3)])
        self.assertEqual(texts[-3:], [[0] + list(text.encode()) for text in (TRIANGLE, SQUARE, PYRAMID)])

    def test_300_calls(self):
        told = ask(load(1, sixty_faces()), *[call("profile", 1, 0, 0, 9000, at, 50) for at in range(299)])
        self.assertEqual(len(told), 300)
        self.assertEqual(told[0], [0, 0, 33, 60])
        for answer in told[1:]:
            self.assertEqual(len(answer), 1 + 3 * 51)

    def test_17000_numbers(self):
        text = "#" * 2500 + "\n" + TRIANGLE
        told = ask(*[load(1 + at % 4, text) for at in range(6)], call("facts", 2))
        self.assertEqual(told, [[0, 0, 3, 1]] * 6 + [[0, 3, 1, 3, 100, 0, 20]])


if __name__ == "__main__":
    unittest.main()
