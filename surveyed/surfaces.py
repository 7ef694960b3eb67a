"""Calls on four slots for surfaces, and what they answer."""

from surveyed.contours import contour
from surveyed.forms import in_ranges, slots_asked, split_calls
from surveyed.heights import cells, profile, told_height
from surveyed.measures import facts, slope, steep_faces, volume
from surveyed.outlines import outline, outline_places
from surveyed.texts import read_text, surface_text

OUT_OF_RANGE = -1
NO_SURFACE = -2
NO_FACE = -4
OTHER_OUTLINE = -5
ODD_SIDE = -6


def answer_load(slots, plain, rows):
    reading = read_text(rows[0])
    if reading.kind != 0:
        return [0, reading.kind, reading.line]
    slots[plain[0]] = reading.surface
    return [0, 0, len(reading.surface.points), len(reading.surface.faces)]


def answer_text(slots, plain, rows):
    return [0] + surface_text(slots[plain[0]])


def answer_facts(slots, plain, rows):
    return [0] + facts(slots[plain[0]])


def answer_height(slots, plain, rows):
    return [0] + told_height(slots[plain[0]], plain[1], plain[2], plain[3])


def answer_volume(slots, plain, rows):
    return [0, volume(slots[plain[0]], plain[1])]


def answer_net(slots, plain, rows):
    first = slots[plain[0]]
    second = slots[plain[1]]
    if outline_places(first) != outline_places(second):
        return [OTHER_OUTLINE]
    return [0, volume(second, 0) - volume(first, 0)]


def answer_cells(slots, plain, rows):
    if plain[2] % 2 != 0:
        return [ODD_SIDE]
    return [0] + cells(slots[plain[0]], slots[plain[1]], plain[2])


def answer_outline(slots, plain, rows):
    return [0] + outline(slots[plain[0]])


def answer_slope(slots, plain, rows):
    surface = slots[plain[0]]
    if plain[1] > len(surface.faces):
        return [NO_FACE]
    return [0] + slope(surface.triangles[plain[1] - 1])


def answer_steep(slots, plain, rows):
    return [0] + steep_faces(slots[plain[0]], plain[1], plain[2])


def answer_contour(slots, plain, rows):
    return [0] + contour(slots[plain[0]], plain[1])


def answer_profile(slots, plain, rows):
    return [0] + profile(slots[plain[0]], plain[1], plain[2], plain[3], plain[4], plain[5])


# By the call's number.
ANSWERERS = (
    answer_load,
    answer_text,
    answer_facts,
    answer_height,
    answer_volume,
    answer_net,
    answer_cells,
    answer_outline,
    answer_slope,
    answer_steep,
    answer_contour,
    answer_profile,
)


def answer_call(slots, call):
    """The answer of one call: 0 and what is told, or a refusal."""
    if not in_ranges(call):
        return [OUT_OF_RANGE]
    for slot in slots_asked(call):
        if slot not in slots:
            return [NO_SURFACE]
    answerer = ANSWERERS[call.number]
    return answerer(slots, call.plain, call.rows)


def answers(calls):
    """The answers of all calls on slots that have no surface yet, each behind its length."""
    slots = {}
    told = []
    for call in split_calls(calls):
        answer = answer_call(slots, call)
        told.append(len(answer))
        told.extend(answer)
    return told
