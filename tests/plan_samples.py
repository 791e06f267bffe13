"""Views, lots and decisions by plain second ways, for the tests of plans.py."""

from functools import lru_cache
from itertools import combinations

from helpers import numbers, small_rankings


def views_of(count):
    return [(low, high) for low in range(count) for high in range(low, count)]


def lots_of(count, most):
    return [lot for size in range(min(count, most) + 1) for lot in combinations(range(count), size)]


def told_of(view, lot):
    return not set(range(view[0], view[1] + 1)) & set(lot)


def drawn_views(count, seed, how_many):
    """Views of count keys, drawn: few, half, nearly all of them."""
    draws = numbers(seed)
    for at in range(how_many):
        yield tuple(view for view in views_of(count) if next(draws) % 8 < (2, 4, 7)[at % 3])


def all_choices_of_views(count):
    views = views_of(count)
    return [tuple(view for at, view in enumerate(views) if bits >> at & 1) for bits in range(1 << len(views))]


def some_views(count, seed, how_many):
    """() and all views, each of the views alone, those of parts of trees, and drawn ones."""
    found = [(), tuple(views_of(count))] + [(view,) for view in views_of(count)]
    found += [tuple((key, key) for key in range(count)), tuple((0, key) for key in range(count))]
    found += list(drawn_views(count, seed, how_many))
    return found


def drawn_told(count, seed):
    """Told looks of which some fit a lot, some are drawn freely."""
    draws = numbers(seed)
    views = views_of(count)
    lot = [key for key in range(count) if next(draws) % 3 == 0]
    told = []
    for _ in range(next(draws) % 5):
        view = views[next(draws) % len(views)]
        free = next(draws) % 5 == 0
        told.append(view + (next(draws) % 2 == 0 if free else told_of(view, lot),))
    return tuple(told)


def least_by_search(views, lots):
    """The least number of looks that always leave one of the lots, by trying each number; None if there is none."""
    if len({tuple(told_of(view, lot) for view in views) for lot in lots}) < len(lots):
        return None

    @lru_cache(None)
    def enough(left, looks):
        if len(left) < 2:
            return True
        return looks > 0 and any(
            enough(tuple(lot for lot in left if told_of(view, lot)), looks - 1)
            and enough(tuple(lot for lot in left if not told_of(view, lot)), looks - 1)
            for view in views
        )

    return next(looks for looks in range(99) if enough(tuple(lots), looks))


def doublings(many):
    """How often 1 is doubled until it is many or more."""
    found = 0
    while 2 ** found < many:
        found += 1
    return found


def viewed_rankings():
    return [ranking for ranking in small_rankings(4) if ranking]
