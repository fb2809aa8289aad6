"""Stretches (low, high) of numbers, both included."""


def together(stretches):
    """The same numbers in ascending stretches, as wide as possible; none is in two of them."""
    found = []
    for low, high in sorted(stretches):
        if found and found[-1][1] + 1 == low:
            low = found.pop()[0]
        found.append((low, high))
    return found
