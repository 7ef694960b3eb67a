"""Contours: the lines on which a surface has a given height."""

from surveyed.outlines import face_edges
from surveyed.ratios import fraction


def crossed_edges(surface, face, h):
    """The edges of a face, the lesser number first, with just one point that is low."""
    crossed = []
    for edge in face_edges(face):
        if (surface.point(edge[0]).z < h) != (surface.point(edge[1]).z < h):
            crossed.append((min(edge), max(edge)))
    return crossed


def joined_edges(surface, h):
    """For each crossed edge those that a face joins it with: one on the rim, else two."""
    joined = {}
    for face in surface.faces:
        crossed = crossed_edges(surface, face, h)
        if len(crossed) == 2:
            joined.setdefault(crossed[0], []).append(crossed[1])
            joined.setdefault(crossed[1], []).append(crossed[0])
    return joined


def walk_line(joined, start, seen):
    """The edges of the line from start on, to the lesser side first; they are seen then."""
    line = []
    ahead = [start]
    while len(ahead) > 0:
        edge = min(ahead)
        seen[edge] = True
        line.append(edge)
        ahead = [other for other in joined[edge] if other not in seen]
    return line


def crossing(surface, edge, h):
    """The place on an edge where the height is h: its x and its y as fractions."""
    a = surface.point(edge[0])
    b = surface.point(edge[1])
    drop = b.z - a.z
    x = a.x * drop + (b.x - a.x) * (h - a.z)
    y = a.y * drop + (b.y - a.y) * (h - a.z)
    return fraction(x, drop) + fraction(y, drop)


def told_line(surface, line, ring, h):
    """Whether a line is a ring, how many crossed edges it has, and where they are crossed."""
    told = [ring, len(line)]
    for edge in line:
        told.extend(crossing(surface, edge, h))
    return told


def contour(surface, h):
    """How many lines the contour at h has, then each line: open ones first, then rings."""
    joined = joined_edges(surface, h)
    edges = sorted(joined)
    seen = {}
    count = 0
    told = []
    # By rising edges, so that a line is first met at its lesser end, a ring at its least edge.
    for edge in edges:
        if edge not in seen and len(joined[edge]) == 1:
            count += 1
            told.extend(told_line(surface, walk_line(joined, edge, seen), 0, h))
    for edge in edges:
        if edge not in seen:
            count += 1
            told.extend(told_line(surface, walk_line(joined, edge, seen), 1, h))
    return [count] + told
