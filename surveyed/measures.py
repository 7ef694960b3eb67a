"""What is reckoned from whole faces: areas, volumes and slopes."""

from surveyed.outlines import outline
from surveyed.plane import twice_area
from surveyed.ratios import fraction


def triangle_area(triangle):
    """Twice the area of three corners."""
    return twice_area(triangle[0], triangle[1], triangle[2])


def facts(surface):
    """How many points, faces and outline points; twice the area; the least and greatest height."""
    area = sum([triangle_area(triangle) for triangle in surface.triangles])
    heights = [point.z for point in surface.points]
    counts = [len(surface.points), len(surface.faces), len(outline(surface))]
    return counts + [area, min(heights), max(heights)]


def volume(surface, h):
    """Six times the volume above the level h."""
    total = 0
    for triangle in surface.triangles:
        heights = sum([point.z for point in triangle])
        total += triangle_area(triangle) * (heights - 3 * h)
    return total


def rises(triangle):
    """How much a step of 1 to the right and one away rise, each times twice the area."""
    a = triangle[0]
    b = triangle[1]
    c = triangle[2]
    right = (b.z - a.z) * (c.y - a.y) - (b.y - a.y) * (c.z - a.z)
    away = (b.x - a.x) * (c.z - a.z) - (b.z - a.z) * (c.x - a.x)
    return [right, away]


def slope(triangle):
    """By how much the face rises for a step of 1 to the right, and away, as fractions."""
    rise = rises(triangle)
    area = triangle_area(triangle)
    return fraction(rise[0], area) + fraction(rise[1], area)


def is_steep(triangle, n, d):
    """Whether the face rises by more than n for d steps in its steepest direction."""
    # Squares are held against one another, as the steepest rise itself may be no fraction.
    rise = rises(triangle)
    area = triangle_area(triangle)
    return (rise[0] * rise[0] + rise[1] * rise[1]) * d * d > n * n * area * area


def steep_faces(surface, n, d):
    """The numbers of the faces that are steeper than n for d steps."""
    return [at for at, triangle in enumerate(surface.triangles, start=1) if is_steep(triangle, n, d)]
