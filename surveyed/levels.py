"""Levels: a ring of measured differences, which should come to 0, is closed."""


def closed_ring(differences, lengths):
    """The sum of the differences, then a correction for each, shared out by the lengths."""
    total = sum(differences)
    whole = sum(lengths)
    told = [total]
    passed = 0
    before = 0
    # What is rounded is the correction up to a place, so that all of them come to -total.
    for length in lengths:
        passed += length
        up_to_here = -total * passed // whole
        told.append(up_to_here - before)
        before = up_to_here
    return told
