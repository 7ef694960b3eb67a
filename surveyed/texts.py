"""Surfaces read from texts, and told as texts. A text is a list of bytes."""

from surveyed.model import FARTHEST, HIGHEST, MOST_FACES, MOST_POINTS, Point, Surface
from surveyed.outlines import unsound_kind
from surveyed.plane import twice_area

LINE_END = 10
BLANK = 32
REMARK = 35
MINUS = 45
ZERO = 48
NINE = 57


class Reading:
    """What is known of a text: a fault (its kind and line), or with kind 0 a surface."""

    def __init__(self, kind, line, surface):
        self.kind = kind
        self.line = line
        self.surface = surface


def text_bytes(text):
    """The bytes of a written text."""
    return [ord(sign) for sign in text]


def parted(numbers, parting):
    """The pieces of a list that lie before, between and behind the parting numbers."""
    pieces = []
    piece = []
    for number in numbers:
        if number == parting:
            pieces.append(piece)
            piece = []
        else:
            piece.append(number)
    pieces.append(piece)
    return pieces


def words_of(line):
    """The words of a line."""
    return [word for word in parted(line, BLANK) if len(word) > 0]


def numeral(word):
    """The number that a numeral tells, None if the word is no numeral."""
    if len(word) < 1 or len(word) > 9:
        return None
    if word[0] == ZERO and len(word) > 1:
        return None
    number = 0
    for byte in word:
        if byte < ZERO or byte > NINE:
            return None
        number = number * 10 + byte - ZERO
    return number


def height_numeral(word):
    """The number that a numeral with or without a minus tells, None if it is none."""
    if word[0] != MINUS:
        return numeral(word)
    number = numeral(word[1:])
    if number is None or number == 0:
        return None
    return -number


def read_text(text):
    """The reading of a text."""
    points = []
    faces = []
    for at, line in enumerate(parted(text, LINE_END), start=1):
        kind = take_line(words_of(line), points, faces)
        if kind != 0:
            return Reading(kind, at, None)
    surface = Surface(points, faces)
    kind = unsound_kind(surface)
    if kind != 0:
        return Reading(kind, 0, None)
    return Reading(0, 0, surface)


def take_line(words, points, faces):
    """Take up what a line tells; answers the kind of what is wrong with it, or 0."""
    if len(words) == 0 or words[0][0] == REMARK:
        return 0
    if len(words) != 4:
        return 1
    if words[0] == text_bytes("point"):
        return take_point([numeral(words[1]), numeral(words[2]), height_numeral(words[3])], points)
    if words[0] == text_bytes("face"):
        return take_face([numeral(word) for word in words[1:]], points, faces)
    return 1


def take_point(numbers, points):
    """Take up one more point; answers the kind of what is wrong with it, or 0."""
    if None in numbers:
        return 1
    new = Point(numbers[0], numbers[1], numbers[2])
    if new.x > FARTHEST or new.y > FARTHEST or abs(new.z) > HIGHEST:
        return 4
    if (new.x, new.y) in [(point.x, point.y) for point in points]:
        return 2
    if len(points) >= MOST_POINTS:
        return 5
    points.append(new)
    return 0


def take_face(numbers, points, faces):
    """Take up one more face; answers the kind of what is wrong with it, or 0."""
    if None in numbers:
        return 1
    if min(numbers) < 1 or max(numbers) > len(points):
        return 3
    area = twice_area(points[numbers[0] - 1], points[numbers[1] - 1], points[numbers[2] - 1])
    if area == 0:
        return 6
    if len(faces) >= MOST_FACES:
        return 5
    if area > 0:
        faces.append((numbers[0], numbers[1], numbers[2]))
    else:
        faces.append((numbers[0], numbers[2], numbers[1]))
    return 0


def text_line(word, a, b, c):
    """A line of a surface's one text, with its end."""
    return f"{word} {a} {b} {c}\n"


def surface_text(surface):
    """The surface's one text."""
    lines = [text_line("point", point.x, point.y, point.z) for point in surface.points]
    lines.extend([text_line("face", face[0], face[1], face[2]) for face in surface.faces])
    return text_bytes("".join(lines))
