"""Points and sides as they are seen from above."""


def twice_area(a, b, c):
    """Twice the area of three points, above 0 if they are told against the clock."""
    return (b.x - a.x) * (c.y - a.y) - (b.y - a.y) * (c.x - a.x)


def spans_overlap(a, b, c, d):
    """Whether the numbers between a and b and those between c and d have one in common."""
    return max(a, b) >= min(c, d) and max(c, d) >= min(a, b)


def on_one_side(a, b, c, d):
    """Whether c and d are both off the line through a and b, on the same side of it."""
    return twice_area(a, b, c) * twice_area(a, b, d) > 0


def sides_touch(a, b, c, d):
    """Whether the side from a to b and the one from c to d have a point in common."""
    # Sides on one line are on no side of each other: only their spans part them.
    if not spans_overlap(a.x, b.x, c.x, d.x) or not spans_overlap(a.y, b.y, c.y, d.y):
        return False
    return not on_one_side(a, b, c, d) and not on_one_side(c, d, a, b)
