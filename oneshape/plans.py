"""Which keys differ, found by looks at views: what is left, the fewest looks, plans and witnesses."""

from oneshape.checks import check_ranking
from oneshape.errors import InvalidRanking, Refused
from oneshape.narrowing import (
    all_bits,
    are_told_apart,
    best_place,
    fewest_behind,
    masks_of,
    plan_behind,
    shortest_telling,
)
from oneshape.parts import all_parts, keys_of, tree_by_ranks
from oneshape.views import (
    MOST_VIEWED_KEYS,
    check_few_keys,
    check_plan,
    check_told,
    check_viewed_keys,
    check_views,
    fits,
    holds_plan,
    holds_witness,
    lots_up_to,
    tells_same,
)


def all_views(count):
    """The views of count keys, all of them."""
    check_viewed_keys(count, 0)
    return tuple([(low, high) for low in range(count) for high in range(low, count)])


def part_views(ranking):
    """The views of the stretches of all parts of the tree of all keys, and of each key by itself."""
    check_ranking(ranking)
    if not 1 <= len(ranking) <= MOST_VIEWED_KEYS:
        raise InvalidRanking("here a ranking has 1 to 8 keys")
    keys = tuple(range(len(ranking)))
    parts = [keys_of(part) for part in all_parts(tree_by_ranks(ranking, keys))]
    return tuple(sorted({(row[0], row[-1]) for row in parts + [(key,) for key in keys]}))


def answers(count, most, views, lot):
    """The truths that the views tell of the lot."""
    check_views(count, most, views)
    check_few_keys(count, most, lot)
    return tuple([tells_same(view, lot) for view in views])


def lots_left(count, most, told):
    """The list, in lot order, of the lots of at most most keys that fit the told looks."""
    check_viewed_keys(count, most)
    check_told(count, told)
    return _lots_that_fit(count, most, told)


def _lots_that_fit(count, most, told):
    return [lot for lot in lots_up_to(count, most) if fits(told, lot)]


def unparted(count, most, views):
    """The first two lots of at most most keys that no view tells apart; None if there are none."""
    check_views(count, most, views)
    alike = {}
    for lot in lots_up_to(count, most):
        alike.setdefault(tuple([tells_same(view, lot) for view in views]), []).append(lot)
    # The groups stand in the sequence of their first lots.
    groups = [lots for lots in list(alike.values()) if len(lots) > 1]
    return (groups[0][0], groups[0][1]) if groups else None


def fewest_left(count, most, views, told):
    """The least number of further looks that always leave one lot; None if there is no such number."""
    check_views(count, most, views)
    check_told(count, told)
    return _fewest(views, _lots_that_fit(count, most, told))


def fewest_looks(count, most, views):
    """The least number of looks that always leave one lot; None if there is no such number."""
    check_views(count, most, views)
    return _fewest(views, lots_up_to(count, most))


def _fewest(views, lots):
    """The least number of looks for these lots; None if two of them are alike to all views."""
    if not are_told_apart(views, lots):
        return None
    return fewest_behind(masks_of(views, lots), all_bits(lots), {})


def best_look(count, most, views, told):
    """The first view behind which 1 less than the fewest looks suffice; None if there are none to make."""
    check_views(count, most, views)
    check_told(count, told)
    lots = _lots_that_fit(count, most, told)
    if len(lots) < 2 or not are_told_apart(views, lots):
        return None
    return views[best_place(masks_of(views, lots), all_bits(lots), {})]


def is_plan(count, most, views, value):
    """Whether any value is a plan for these."""
    check_views(count, most, views)
    return holds_plan(count, most, views, value)


def plan_depth(count, most, views, plan):
    """The greatest number of looks on a way to an answer of the plan."""
    check_views(count, most, views)
    check_plan(count, most, views, plan)
    return _depth(plan)


def _is_look(plan):
    """Whether this part of a plan is a look, and no answer."""
    return len(plan) > 0 and plan[0] == "look"


def _depth(plan):
    if not _is_look(plan):
        return 0
    return 1 + max(_depth(plan[3]), _depth(plan[4]))


def best_plan(count, most, views):
    """A plan with the fewest looks."""
    check_views(count, most, views)
    lots = lots_up_to(count, most)
    if not are_told_apart(views, lots):
        raise Refused("two lots are alike to all views")
    return plan_behind(views, lots, masks_of(views, lots), all_bits(lots), {})


def led_by(count, most, views, plan, lot):
    """The told looks on the way of the plan for this lot."""
    check_views(count, most, views)
    check_plan(count, most, views, plan)
    check_few_keys(count, most, lot)
    told = []
    part = plan
    while _is_look(part):
        _, low, high, first, second = part
        same = tells_same((low, high), lot)
        told.append((low, high, same))
        part = first if same else second
    return tuple(told)


def is_witness(count, most, views, lot, value):
    """Whether any value is a witness of the lot."""
    check_views(count, most, views)
    check_few_keys(count, most, lot)
    return holds_witness(count, most, views, lot, value)


def fewest_witness(count, most, views, lot):
    """The least number of looks of a witness of the lot; None if there is none."""
    check_views(count, most, views)
    check_few_keys(count, most, lot)
    told = shortest_telling(views, lots_up_to(count, most), lot)
    return None if told is None else len(told)


def some_witness(count, most, views, lot):
    """A witness of the lot with the fewest looks."""
    check_views(count, most, views)
    check_few_keys(count, most, lot)
    told = shortest_telling(views, lots_up_to(count, most), lot)
    if told is None:
        raise Refused("another lot is alike to all views")
    return told
