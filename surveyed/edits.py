"""Edits: each makes another surface, and the one it was made from stays as it was."""

from surveyed.model import HIGHEST, MOST_FACES, MOST_POINTS, Point, Surface
from surveyed.outlines import face_edges
from surveyed.plane import twice_area


def raised(surface, number, z):
    """The surface with this height at one point."""
    points = list(surface.points)
    before = surface.point(number)
    points[number - 1] = Point(before.x, before.y, z)
    return Surface(points, surface.faces)


def shifted(surface, z):
    """The surface with all heights so much more."""
    return Surface([Point(point.x, point.y, point.z + z) for point in surface.points], surface.faces)


def is_too_high_or_low(surface):
    """Whether a height is beyond what a surface may have."""
    return any([abs(point.z) > HIGHEST for point in surface.points])


def has_room(surface):
    """Whether one more point and the two more faces that come with it may be there."""
    return len(surface.points) + 1 <= MOST_POINTS and len(surface.faces) + 2 <= MOST_FACES


def inserted(surface, number, point):
    """The surface with a new point within the face of this number, which is parted in three."""
    face = surface.faces[number - 1]
    new = len(surface.points) + 1
    faces = list(surface.faces)
    faces[number - 1] = (face[0], face[1], new)
    faces.append((face[1], face[2], new))
    faces.append((face[2], face[0], new))
    return Surface(surface.points + [point], faces)


def own_point(face, edge):
    """The number of that point of a face which is not on its edge."""
    return [number for number in face if number not in edge][0]


def joint_piece(first, second):
    """The points' numbers round the piece that two faces make together, None if no edge joins them.

    They are told from the first face's own point on, against the clock.
    """
    others = face_edges(second)
    for edge in face_edges(first):
        if (edge[1], edge[0]) in others:
            return (own_point(first, edge), edge[0], own_point(second, edge), edge[1])
    return None


def bulges(corners):
    """Whether a four-sided piece told against the clock bulges at each of its points."""
    # Below 0 an index counts from the end, so this comes to each corner once.
    return all([twice_area(corners[at - 2], corners[at - 1], corners[at]) > 0 for at in range(4)])


def flipped(surface, first, second, piece):
    """The surface with the piece that two faces make parted the other way."""
    faces = list(surface.faces)
    faces[first - 1] = (piece[0], piece[1], piece[2])
    faces[second - 1] = (piece[2], piece[3], piece[0])
    return Surface(surface.points, faces)
