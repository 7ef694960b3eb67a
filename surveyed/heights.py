"""Heights of places and what is reckoned from them. A place is (x / d, y / d)."""

from surveyed.model import FARTHEST
from surveyed.ratios import fraction


def area_with(a, b, x, y, d):
    """d times twice the area of a, b and the place."""
    return (b.x - a.x) * (y - a.y * d) - (b.y - a.y) * (x - a.x * d)


def corner_shares(triangle, x, y, d):
    """How much each corner counts for the height at the place, None if it is not within."""
    a = triangle[0]
    b = triangle[1]
    c = triangle[2]
    share_c = area_with(a, b, x, y, d)
    if share_c < 0:
        return None
    share_a = area_with(b, c, x, y, d)
    if share_a < 0:
        return None
    share_b = area_with(c, a, x, y, d)
    if share_b < 0:
        return None
    return [share_a, share_b, share_c]


def faces_at(surface, x, y):
    """The numbers of the faces within which a whole place is."""
    found = []
    for number, triangle in enumerate(surface.triangles, start=1):
        if corner_shares(triangle, x, y, 1) is not None:
            found.append(number)
    return found


def face_holding(surface, x, y):
    """The number of the face that holds a whole place off its edges, 0 if none does."""
    for number in faces_at(surface, x, y):
        # On an edge, the corner across from it has no share.
        if 0 not in corner_shares(surface.triangles[number - 1], x, y, 1):
            return number
    return 0


def height_at(surface, x, y, d):
    """The height at the place as a fraction, None if it is within no face."""
    for triangle in surface.triangles:
        shares = corner_shares(triangle, x, y, d)
        if shares is not None:
            weighed = [share * point.z for share, point in zip(shares, triangle)]
            return fraction(sum(weighed), sum(shares))
    return None


def told_height(surface, x, y, d):
    """1 and the height at the place, or 0 if it is within no face."""
    height = height_at(surface, x, y, d)
    if height is None:
        return [0]
    return [1] + height


def whole_height(surface, x, y):
    """The height at a whole place, rounded down, None if it is within no face."""
    height = height_at(surface, x, y, 1)
    if height is None:
        return None
    return height[0] // height[1]


def cells(first, second, g):
    """Of the squares of side g with a middle within both: how many, and the sums of less and more."""
    count = 0
    less = 0
    more = 0
    middles = [at * g + g // 2 for at in range(FARTHEST // g)]
    for x in middles:
        for y in middles:
            before = whole_height(first, x, y)
            after = whole_height(second, x, y)
            if before is not None and after is not None:
                count += 1
                less += max(before - after, 0)
                more += max(after - before, 0)
    return [count, less, more]


def profile(surface, x1, y1, x2, y2, n):
    """The told heights at n + 1 places from one end to the other."""
    told = []
    for at in range(n + 1):
        x = x1 * (n - at) + x2 * at
        y = y1 * (n - at) + y2 * at
        told.extend(told_height(surface, x, y, n))
    return told
