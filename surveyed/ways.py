"""Ways down: where water goes from a point."""

from surveyed.outlines import all_edges


def neighbours(surface):
    """For each point's number the numbers of those that an edge joins it with, rising."""
    near = {}
    for edge in all_edges(surface.faces):
        near.setdefault(edge[0], []).append(edge[1])
        near.setdefault(edge[1], []).append(edge[0])
    rising = {}
    for number in near:
        # Two faces tell the edge that they share, each its own way.
        rising[number] = sorted(set(near[number]))
    return rising


def step_down(surface, number, others):
    """The one of the neighbours that water goes to from a point, 0 if none is lower."""
    start = surface.point(number)
    best = 0
    best_drop = 0
    best_length = 1
    for other in others:
        end = surface.point(other)
        drop = start.z - end.z
        length = (end.x - start.x) ** 2 + (end.y - start.y) ** 2
        # Lengths are squares; of equal steps the first stays, which has the least number.
        if drop > 0 and drop ** 2 * best_length > best_drop ** 2 * length:
            best = other
            best_drop = drop
            best_length = length
    return best


def steps_down(surface):
    """For each point's number the point that water goes to from it, 0 if it stays."""
    near = neighbours(surface)
    steps = {}
    for number in near:
        steps[number] = step_down(surface, number, near[number])
    return steps


def walk_down(steps, number):
    """The points of the way down by these steps, from a point on."""
    way = []
    while number != 0:
        way.append(number)
        number = steps[number]
    return way


def way_down(surface, number):
    """The numbers of the points of the way down, the point itself first."""
    return walk_down(steps_down(surface), number)


def basins(surface):
    """For each point, in order, the last one of its way down."""
    steps = steps_down(surface)
    return [walk_down(steps, number)[-1] for number in range(1, len(surface.points) + 1)]
