"""Edges, the rim, the outline, and whether a surface is sound."""

from surveyed.plane import sides_touch


def face_edges(face):
    """The three edges of a face, each from one point's number to another's."""
    return [(face[0], face[1]), (face[1], face[2]), (face[2], face[0])]


def all_edges(faces):
    """The edges of all faces, one face behind another."""
    edges = []
    for face in faces:
        edges.extend(face_edges(face))
    return edges


def rim_edges(faces):
    """The edges that no face has the other way."""
    edges = all_edges(faces)
    there = {}
    for edge in edges:
        there[edge] = True
    return [edge for edge in edges if (edge[1], edge[0]) not in there]


def faces_around(surface, face):
    """For each edge of a face the number of the face on its other side, 0 if there is none."""
    owners = {}
    for number, other in enumerate(surface.faces, start=1):
        for edge in face_edges(other):
            owners[edge] = number
    return [owners.get((edge[1], edge[0]), 0) for edge in face_edges(face)]


def ring_from_least(edges):
    """The points that the edges lead through, from the least on, till one comes again."""
    following = dict(edges)
    point = min([edge[0] for edge in edges])
    ring = []
    while point not in ring:
        ring.append(point)
        point = following[point]
    return ring


def outline(surface):
    """The numbers of the outline's points, from the least on."""
    return ring_from_least(rim_edges(surface.faces))


def outline_places(surface):
    """The outline's points' x and y, from the least place on."""
    places = [(point.x, point.y) for point in surface.corners(outline(surface))]
    start = places.index(min(places))
    return places[start:] + places[:start]


def unsound_kind(surface):
    """The first kind by which the surface is not sound, 0 if it is."""
    if len(surface.faces) == 0:
        return 10
    edges = all_edges(surface.faces)
    if len(set([edge[0] for edge in edges])) < len(surface.points):
        return 11
    if len(set(edges)) < len(edges):
        return 12
    rim = rim_edges(surface.faces)
    # As many edges lead to a point as from it, so a walk that is as long as
    # the rim comes to every point of it once and ends where it began.
    if len(ring_from_least(rim)) < len(rim):
        return 13
    if any_sides_meet(surface, rim):
        return 14
    return 0


def any_sides_meet(surface, rim):
    """Whether two sides have more in common than neighbours their common corner."""
    for at, first in enumerate(rim):
        for second in rim[:at]:
            if sides_meet(surface, first, second):
                return True
    return False


def sides_meet(surface, first, second):
    """Whether two sides that are no neighbours have a point in common."""
    # Neighbours need no look of their own: if one ran back along the other, the far end of the
    # shorter would lie on the longer, and the side beyond that end would touch it. (The ring is
    # never three points on one line, for its area is that of all faces.)
    if first[1] == second[0] or second[1] == first[0]:
        return False
    a = surface.point(first[0])
    b = surface.point(first[1])
    c = surface.point(second[0])
    d = surface.point(second[1])
    return sides_touch(a, b, c, d)
