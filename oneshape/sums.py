"""Lists told by an index, of two things that are chosen without regard to each other, put together."""


def greatest_sums(some, others):
    """At each index the greatest sum of an item of each list whose indexes add up to it."""
    best = [0] * (len(some) + len(others) - 1)
    for at, many in enumerate(some):
        for by, more in enumerate(others):
            best[at + by] = max(best[at + by], many + more)
    return best


def counts_together(some, others):
    """At each index how many pairs there are, if the lists tell how many of each there are by their indexes."""
    counts = [0] * (len(some) + len(others) - 1)
    for at, many in enumerate(some):
        for by, more in enumerate(others):
            counts[at + by] += many * more
    return counts


def counts_of_either(some, others):
    """At each index the sum of both lists, the shorter one filled up with 0."""
    counts = [0] * max(len(some), len(others))
    for at, many in enumerate(some):
        counts[at] += many
    for at, many in enumerate(others):
        counts[at] += many
    return counts
