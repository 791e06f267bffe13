"""Page stretches, the page walks through them, and how many looks these take; nothing is checked here."""

from oneshape.sums import counts_of_either, counts_together, greatest_sums


def inner_of(levels, stretch):
    """The inner stretches of a page stretch, from left to right."""
    first, last = stretch
    if first == last:
        return []
    greatest = max(levels[first:last + 1])
    found = []
    for key in range(first, last + 1):
        # Keys of the greatest level stand by themselves; between them lie stretches of lesser ones.
        if levels[key] < greatest and found and levels[found[-1][1]] < greatest:
            found[-1] = (found[-1][0], key)
        else:
            found.append((key, key))
    return found


def stretches_within(levels, stretch):
    """The list of a page stretch and of all the page stretches within it."""
    found = [stretch]
    for part in inner_of(levels, stretch):
        found += stretches_within(levels, part)
    return found


def whole_of(levels):
    """The stretch of all keys, of which there is one or more."""
    return (0, len(levels) - 1)


def _holds_any(stretch, keys):
    first, last = stretch
    return any([first <= key <= last for key in keys])


def walk_at(levels, lot):
    """The page walk of stores that differ at just these keys."""
    if not levels:
        return []
    whole = whole_of(levels)
    inside = _looks_inside(levels, whole, lot) if lot else []
    return [whole + (not lot,)] + inside


def _looks_inside(levels, stretch, lot):
    """The looks behind the opening of the stretch, which holds a key of the lot."""
    run = []
    found = False
    parts = inner_of(levels, stretch)
    for part in parts:
        differs = _holds_any(part, lot)
        # They must differ at the last one, if they do so at none of the others.
        if found or part != parts[-1]:
            run.append(part + (not differs,))
        if differs:
            run += _looks_inside(levels, part, lot)
            found = True
    return run


def lot_told(levels, looks):
    """The lot whose page walk this is, if it is one: the keys of no stretch that is told to be the same."""
    same = [look[:2] for look in looks if look[2]]
    keys = range(len(levels))
    return tuple([key for key in keys if not any([first <= key <= last for first, last in same])])


def counts_by_looks(levels):
    """At each index how many lots have a page walk of so many looks."""
    if not levels:
        return [1]
    return [0] + counts_of_either([1], _counts_inside(levels, whole_of(levels)))


# At each inner stretch but the last one a look is made: either it tells the same, or one of
# the lots behind it is gone on with. At the last one it is so if one of the others differs.
def _counts_inside(levels, stretch):
    """At each index how many lots of keys of the stretch, not (), take so many looks behind its opening."""
    parts = inner_of(levels, stretch)
    if not parts:
        return [1]
    last = _counts_inside(levels, parts[-1])
    ahead = [1]
    for part in parts[:-1]:
        ahead = counts_together(ahead, [0] + counts_of_either([1], _counts_inside(levels, part)))
    # Just one choice has all the others the same, with one look at each.
    alike = len(parts) - 1
    ahead[alike] -= 1
    further = counts_together(ahead, [0] + counts_of_either([1], last))
    return counts_of_either(further, [0] * alike + last)


def most_by_keys(levels, chosen, least):
    """At each index the most looks for the chosen keys and so many others, from the least one on."""
    if not levels:
        return [0]
    return [1 + many for many in _most_inside(levels, whole_of(levels), chosen, least)]


def _most_inside(levels, stretch, chosen, least):
    """At each index the most looks behind a look at the stretch, for the chosen keys in it and so many others."""
    parts = inner_of(levels, stretch)
    if not parts:
        return [0, 0] if stretch[0] >= least else [0]
    last = _most_inside(levels, parts[-1], chosen, least)
    ahead = [0]
    for part in parts[:-1]:
        ahead = greatest_sums(ahead, [1 + many for many in _most_inside(levels, part, chosen, least)])
    best = _most_with_last(ahead, last, any([_holds_any(part, chosen) for part in parts[:-1]]))
    if not _holds_any(stretch, chosen):
        best[0] = 0
    return best


def _most_with_last(ahead, last, found):
    """At each index the most looks at the others and at the last one, found telling that a chosen key is ahead."""
    best = [0] * (len(ahead) + len(last) - 1)
    for at, many in enumerate(ahead):
        look = 1 if found or at > 0 else 0
        for by, more in enumerate(last):
            best[at + by] = max(best[at + by], many + look + more)
    return best


def first_hardest(levels, count):
    """The first lot, in lot order, of at most count keys with the most looks, and their number."""
    row = most_by_keys(levels, (), 0)[:count + 1]
    most = max(row)
    size = row.index(most)
    chosen = ()
    for key in range(len(levels)):
        if len(chosen) < size and _reaches(levels, chosen + (key,), size, most):
            chosen = chosen + (key,)
    return chosen, most


# Keys chosen so far can be filled up by greater ones to a lot of this size with so many looks.
# So up to the next key of such a lot there are as many greater ones as are asked for.
def _reaches(levels, chosen, size, most):
    """Whether the chosen keys and greater ones, so many in all, can make for so many looks."""
    return most_by_keys(levels, chosen, chosen[-1] + 1)[size - len(chosen)] == most
