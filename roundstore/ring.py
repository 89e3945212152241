"""Numbers on a ring: behind its last one comes 0 again."""

from roundstore.marks import RING


def on(number, many, *, ring=RING):
    """The number so many behind this one."""
    return (number + many) % ring


def steps(one, other, *, ring=RING):
    """How many numbers on from one other stands."""
    return (other - one) % ring


def before(one, other, *, ring=RING):
    """Whether one stands ahead of other, by fewer steps than half a ring."""
    return 0 < steps(one, other, ring=ring) < ring // 2


def eldest(numbers, *, ring=RING):
    """The one of the numbers from which the steps to each are less than half a ring, or None."""
    found = numbers[0]
    for number in numbers:
        if before(number, found, ring=ring):
            found = number
    # Only within less than half a ring is before an order whose least one is found here.
    return found if farthest(found, numbers, ring) < ring // 2 else None


def spread(numbers, *, ring=RING):
    """The most steps from the eldest of the numbers to one of them, or None without an eldest."""
    first = eldest(numbers, ring=ring)
    return None if first is None else farthest(first, numbers, ring)


def farthest(one, numbers, ring):
    """The most steps from one to one of the numbers."""
    return max([steps(one, other, ring=ring) for other in numbers])
