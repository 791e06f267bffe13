"""How few looks at views narrow lots down to one; nothing is checked here.

A state is the lots that are left, as the bits of a number; of each view there is a mask, the
bits of the lots of which it tells True. What looks at views can leave are keys that are
known to be the same and stretches known to hold one that is not, so for eight keys there are
some ten thousand states at the most, and each of them is gone through once.
"""

from oneshape.views import tells_same


def masks_of(views, lots):
    """For each view the bits of those of the lots of which it tells True."""
    return [sum([1 << at for at, lot in enumerate(lots) if tells_same(view, lot)]) for view in views]


def all_bits(lots):
    """The state in which all of these lots are left."""
    return (1 << len(lots)) - 1


def _how_many(left):
    """How many lots are left in this state."""
    bits = f"{left:b}"
    return bits.count("1")


def are_told_apart(views, lots):
    """Whether each two of the lots are told apart by some view."""
    return len({tuple([tells_same(view, lot) for view in views]) for lot in lots}) == len(lots)


def fewest_behind(masks, left, known):
    """The least number of looks that leave one lot of those left, if the views tell each two apart.

    known keeps the numbers of the states gone through.
    """
    many = _how_many(left)
    if many <= 1:
        return 0
    if left not in known:
        known[left] = _fewest_of_many(masks, left, many, known)
    return known[left]


def _fewest_of_many(masks, left, many, known):
    # So many looks have no more than so many answers in all.
    least = (many - 1).bit_length()
    best = many
    for mask in masks:
        same = left & mask
        if same == 0 or same == left:
            continue
        looks = 1 + fewest_behind(masks, same, known)
        if looks < best:
            best = min(best, max(looks, 1 + fewest_behind(masks, left ^ same, known)))
        if best == least:
            break
    return best


def best_place(masks, left, known):
    """The index of the first mask behind which 1 less than the fewest looks suffice for two lots or more."""
    looks = fewest_behind(masks, left, known) - 1
    for at, mask in enumerate(masks):
        same = left & mask
        if max(fewest_behind(masks, same, known), fewest_behind(masks, left ^ same, known)) <= looks:
            return at
    return None


def plan_behind(views, lots, masks, left, known):
    """A plan with the fewest looks for the lots that are left, of which there is one or more."""
    if _how_many(left) == 1:
        return lots[left.bit_length() - 1]
    at = best_place(masks, left, known)
    same = left & masks[at]
    first = plan_behind(views, lots, masks, same, known)
    second = plan_behind(views, lots, masks, left ^ same, known)
    return ("look", views[at][0], views[at][1], first, second)


def shortest_telling(views, lots, lot):
    """The fewest told looks that this lot alone, of these, fits; None if another one is alike to all views."""
    telling = [view + (tells_same(view, lot),) for view in views]
    masks = masks_of(views, lots)
    kept = [mask if look[2] else all_bits(lots) ^ mask for mask, look in zip(masks, telling)]
    alone = 1 << lots.index(lot)
    told = {all_bits(lots): ()}
    layer = list(told)
    while layer and alone not in told:
        further = []
        for left in layer:
            for look, mask in zip(telling, kept):
                if left & mask not in told:
                    told[left & mask] = told[left] + (look,)
                    further.append(left & mask)
        layer = further
    return told.get(alone)
