"""Calls on four slots for surfaces, and what they answer."""

from surveyed.contours import contour
from surveyed.edits import bulges, flipped, has_room, inserted, is_too_high_or_low, joint_piece, raised, shifted
from surveyed.forms import in_ranges, slots_asked, split_calls
from surveyed.heights import cells, face_holding, faces_at, profile, told_height
from surveyed.levels import closed_ring
from surveyed.measures import facts, slope, steep_faces, volume
from surveyed.model import Point, is_same
from surveyed.outlines import faces_around, outline, outline_places
from surveyed.texts import read_text, surface_text
from surveyed.ways import basins, way_down

OUT_OF_RANGE = -1
NO_SURFACE = -2
NO_POINT = -3
NO_FACE = -4
OTHER_OUTLINE = -5
ODD_SIDE = -6
NO_ROOM = -7
NOT_WITHIN = -8
NO_COMMON_EDGE = -9
NO_BULGE = -10
TOO_HIGH_OR_LOW = -11
OTHER_COUNT = -12


def answer_load(slots, plain, rows):
    reading = read_text(rows[0])
    if reading.kind != 0:
        return [0, reading.kind, reading.line]
    slots[plain[0]] = reading.surface
    return [0, 0, len(reading.surface.points), len(reading.surface.faces)]


def answer_text(slots, plain, rows):
    return [0] + surface_text(slots[plain[0]])


def answer_facts(slots, plain, rows):
    return [0] + facts(slots[plain[0]])


def answer_height(slots, plain, rows):
    return [0] + told_height(slots[plain[0]], plain[1], plain[2], plain[3])


def answer_volume(slots, plain, rows):
    return [0, volume(slots[plain[0]], plain[1])]


def answer_net(slots, plain, rows):
    first = slots[plain[0]]
    second = slots[plain[1]]
    if outline_places(first) != outline_places(second):
        return [OTHER_OUTLINE]
    return [0, volume(second, 0) - volume(first, 0)]


def answer_cells(slots, plain, rows):
    if plain[2] % 2 != 0:
        return [ODD_SIDE]
    return [0] + cells(slots[plain[0]], slots[plain[1]], plain[2])


def answer_outline(slots, plain, rows):
    return [0] + outline(slots[plain[0]])


def answer_slope(slots, plain, rows):
    surface = slots[plain[0]]
    if plain[1] > len(surface.faces):
        return [NO_FACE]
    return [0] + slope(surface.triangles[plain[1] - 1])


def answer_steep(slots, plain, rows):
    return [0] + steep_faces(slots[plain[0]], plain[1], plain[2])


def answer_contour(slots, plain, rows):
    return [0] + contour(slots[plain[0]], plain[1])


def answer_profile(slots, plain, rows):
    return [0] + profile(slots[plain[0]], plain[1], plain[2], plain[3], plain[4], plain[5])


def answer_down(slots, plain, rows):
    surface = slots[plain[0]]
    if plain[1] > len(surface.points):
        return [NO_POINT]
    return [0] + way_down(surface, plain[1])


def answer_basins(slots, plain, rows):
    return [0] + basins(slots[plain[0]])


def answer_around(slots, plain, rows):
    surface = slots[plain[0]]
    if plain[1] > len(surface.faces):
        return [NO_FACE]
    face = surface.faces[plain[1] - 1]
    return [0] + list(face) + faces_around(surface, face)


def answer_raise(slots, plain, rows):
    surface = slots[plain[0]]
    if plain[1] > len(surface.points):
        return [NO_POINT]
    slots[plain[0]] = raised(surface, plain[1], plain[2])
    return [0]


def answer_insert(slots, plain, rows):
    surface = slots[plain[0]]
    if not has_room(surface):
        return [NO_ROOM]
    face = face_holding(surface, plain[1], plain[2])
    if face == 0:
        return [NOT_WITHIN]
    slots[plain[0]] = inserted(surface, face, Point(plain[1], plain[2], plain[3]))
    return [0, face]


def answer_flip(slots, plain, rows):
    surface = slots[plain[0]]
    first = plain[1]
    second = plain[2]
    if max(first, second) > len(surface.faces):
        return [NO_FACE]
    piece = joint_piece(surface.faces[first - 1], surface.faces[second - 1])
    if piece is None:
        return [NO_COMMON_EDGE]
    if not bulges(surface.corners(piece)):
        return [NO_BULGE]
    slots[plain[0]] = flipped(surface, first, second, piece)
    return [0]


def answer_copy(slots, plain, rows):
    # Both slots may hold the one surface, as a surface is never changed.
    slots[plain[1]] = slots[plain[0]]
    return [0]


def answer_shift(slots, plain, rows):
    surface = shifted(slots[plain[0]], plain[1])
    if is_too_high_or_low(surface):
        return [TOO_HIGH_OR_LOW]
    slots[plain[0]] = surface
    return [0]


def answer_levels(slots, plain, rows):
    if len(rows[0]) != len(rows[1]):
        return [OTHER_COUNT]
    return [0] + closed_ring(rows[0], rows[1])


def answer_same(slots, plain, rows):
    first = slots[plain[0]]
    second = slots[plain[1]]
    same_outline = outline_places(first) == outline_places(second)
    return [0, 1 if is_same(first, second) else 0, 1 if same_outline else 0]


def answer_find(slots, plain, rows):
    return [0] + faces_at(slots[plain[0]], plain[1], plain[2])


# By the call's number.
ANSWERERS = (
    answer_load,
    answer_text,
    answer_facts,
    answer_height,
    answer_volume,
    answer_net,
    answer_cells,
    answer_outline,
    answer_slope,
    answer_steep,
    answer_contour,
    answer_profile,
    answer_down,
    answer_basins,
    answer_around,
    answer_raise,
    answer_insert,
    answer_flip,
    answer_copy,
    answer_shift,
    answer_levels,
    answer_same,
    answer_find,
)


def answer_call(slots, call):
    """The answer of one call: 0 and what is told, or a refusal."""
    if not in_ranges(call):
        return [OUT_OF_RANGE]
    for slot in slots_asked(call):
        if slot not in slots:
            return [NO_SURFACE]
    answerer = ANSWERERS[call.number]
    return answerer(slots, call.plain, call.rows)


def answers(calls):
    """The answers of all calls on slots that have no surface yet, each behind its length."""
    slots = {}
    told = []
    for call in split_calls(calls):
        answer = answer_call(slots, call)
        told.append(len(answer))
        told.extend(answer)
    return told
