"""What a surface is made of."""

FARTHEST = 10000
HIGHEST = 10000
MOST_POINTS = 40
MOST_FACES = 60


class Point:
    """A measured point: x to the right, y away, z its height."""

    def __init__(self, x, y, z):
        self.x = x
        self.y = y
        self.z = z


class Surface:
    """Points and faces, both numbered from 1.

    A face is a tuple of its three points' numbers. A surface is never changed
    once it is made: an edit makes another one, so that slots may share one.
    """

    def __init__(self, points, faces):
        self.points = points
        self.faces = faces
        self.triangles = [self.corners(face) for face in faces]

    def point(self, number):
        """The point of this number."""
        return self.points[number - 1]

    def corners(self, numbers):
        """The points of these numbers, in this order."""
        return [self.point(number) for number in numbers]


def told_points(surface):
    """Each point's x, y and height."""
    return [(point.x, point.y, point.z) for point in surface.points]


def is_same(first, second):
    """Whether both surfaces have the same points and faces in the same order."""
    return told_points(first) == told_points(second) and first.faces == second.faces
