"""The differences of two stores found page by page, and by how many looks."""

from oneshape.checks import GREATEST_LEVEL, check_count, check_levels, check_lot, check_number, check_store
from oneshape.errors import InvalidStretch, InvalidWalk, TooMany
from oneshape.parts import MOST_KEYS
from oneshape.stores import keys_differing
from oneshape.stretches import (
    counts_by_looks,
    first_hardest,
    inner_of,
    lot_told,
    stretches_within,
    walk_at,
    whole_of,
)


def page_stretches(levels):
    """The ascending list of the page stretches."""
    check_levels(levels)
    return _all_stretches(levels)


def _all_stretches(levels):
    return sorted(stretches_within(levels, whole_of(levels))) if levels else []


def inner_stretches(levels, page_stretch):
    """The ascending list of the page stretches within this one that lie within no other such one."""
    check_levels(levels)
    if not _holds_stretch(levels, page_stretch):
        raise InvalidStretch("this is not a page stretch of the levels")
    return inner_of(levels, page_stretch)


def _holds_stretch(levels, value):
    if type(value) is not tuple or not all([type(key) is int for key in value]):
        return False
    return value in _all_stretches(levels)


def _check_stores(levels, store, other_store):
    check_levels(levels)
    check_store(store, len(levels))
    check_store(other_store, len(levels))


def page_differing(levels, store, other_store):
    """The lot of the keys at which both stores differ."""
    _check_stores(levels, store, other_store)
    return keys_differing(store, other_store)


def page_walk(levels, store, other_store):
    """The page walk of both stores."""
    _check_stores(levels, store, other_store)
    return walk_at(levels, keys_differing(store, other_store))


def walk_of(levels, lot):
    """The page walk of stores that differ at just these keys."""
    check_levels(levels)
    check_lot(lot, len(levels))
    return walk_at(levels, lot)


def is_page_walk(levels, value):
    """Whether any value is the page walk of some two stores."""
    check_levels(levels)
    return _holds_walk(levels, value)


def _holds_walk(levels, value):
    if type(value) is not list or not all([_holds_look(look) for look in value]):
        return False
    return walk_at(levels, lot_told(levels, value)) == value


def _holds_look(value):
    if type(value) is not tuple or len(value) != 3:
        return False
    first, last, same = value
    return type(first) is int and type(last) is int and type(same) is bool


def walk_lot(levels, walk):
    """The lot of the keys at which all stores with this page walk differ."""
    check_levels(levels)
    if not _holds_walk(levels, walk):
        raise InvalidWalk("this is not the page walk of two stores by the levels")
    return lot_told(levels, walk)


def look_counts(levels):
    """At each index how many lots have a page walk of so many looks."""
    check_levels(levels)
    return tuple(counts_by_looks(levels))


def most_looks(levels, count):
    """The greatest number of looks of page walks of lots of at most count keys."""
    _, most = _hardest(levels, count)
    return most


def most_lot(levels, count):
    """The first lot of at most count keys, in lot order, whose page walk has so many looks."""
    lot, _ = _hardest(levels, count)
    return lot


def worst_stores(levels, count):
    """Two stores that differ at at most count keys and whose page walk has so many looks."""
    lot, _ = _hardest(levels, count)
    return (tuple([(key, 0) for key in lot]), ())


def _hardest(levels, count):
    """The errors of both parameters, in their order; then the first lot with the most looks, and their number."""
    check_levels(levels)
    check_count(count)
    return first_hardest(levels, min(count, len(levels)))


def least_looks(number):
    """The least most_looks for one key, of all levels of this number of keys."""
    _check_few(number)
    return _looks_for(number)


def best_levels(number):
    """Levels of this number of keys with the least most_looks for one key."""
    _check_few(number)
    return tuple(_levels_within(number, _looks_for(number), GREATEST_LEVEL))


def _check_few(number):
    check_number(number)
    if number > MOST_KEYS:
        raise TooMany(MOST_KEYS)


# One key of the greatest level stands between two stretches of lesser ones. The left one
# costs three looks more than it takes itself, the right one two, as no look is made at it
# if nothing ahead differs.
def _most_keys(looks):
    """The greatest number of keys of which one that differs is always found with so many looks."""
    row = [0, 1, 1]
    while len(row) <= looks:
        row.append(row[-2] + row[-3] + 1)
    return row[looks]


def _looks_for(number):
    looks = 0
    while _most_keys(looks) < number:
        looks += 1
    return looks


def _levels_within(number, looks, level):
    """Levels up to this one of so many keys, for which so many looks suffice."""
    if number <= 1:
        return [0] * number
    right = min(number - 1, _most_keys(looks - 2))
    low = _levels_within(number - 1 - right, looks - 3, level - 1)
    return low + [level] + _levels_within(right, looks - 2, level - 1)
