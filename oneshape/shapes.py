"""The shapes of ranks: rank orders of search trees, told trees, and contents that tell all of a ranking."""

from oneshape.checks import (
    check_content,
    check_contents,
    check_number,
    check_order,
    check_ranking,
    check_search_tree,
    check_told_trees,
    holds_order,
)
from oneshape.errors import NoRanking, Refused, TooMany
from oneshape.orders import (
    count_forest_orders,
    count_told_orders,
    first_ring,
    sure_pairs,
    told_keys,
    told_order_at,
    told_pairs,
    tree_order_at,
    tree_order_index,
)
from oneshape.parts import MOST_KEYS, ranking_from_top

MOST_SHAPED_KEYS = 6
MOST_TELLING_KEYS = 7


def all_trees(keys):
    """The ascending list of the search trees with just these keys."""
    check_content(keys, MOST_KEYS)
    if len(keys) > MOST_SHAPED_KEYS:
        raise TooMany(MOST_SHAPED_KEYS)
    return sorted(_trees_of(keys))


def _trees_of(keys):
    if not keys:
        return [()]
    found = []
    for at, top in enumerate(keys):
        rights = _trees_of(keys[at + 1:])
        found += [(left, top, right) for left in _trees_of(keys[:at]) for right in rights]
    return found


def is_rank_order(search_tree, value):
    """Whether any value is a rank order of the search tree."""
    check_search_tree(search_tree)
    return holds_order(search_tree, value)


def rank_orders(search_tree):
    """How many rank orders the search tree has."""
    check_search_tree(search_tree)
    return count_forest_orders([search_tree])


def rank_order_at(search_tree, number):
    """The rank order of the search tree with this index."""
    check_search_tree(search_tree)
    check_number(number)
    if number >= count_forest_orders([search_tree]):
        raise Refused("the tree has no rank order with this index")
    return tree_order_at(search_tree, number)


def rank_order_index(search_tree, order):
    """The index of this rank order of the search tree."""
    check_search_tree(search_tree)
    check_order(search_tree, order)
    return tree_order_index(search_tree, order)


def told_above(trees):
    """The ascending tuple of the pairs of keys of which the first one is told above the other one."""
    check_told_trees(trees)
    return told_pairs(trees)


def ring_of(trees):
    """The first one of the rings with the fewest keys; None if there is no ring."""
    check_told_trees(trees)
    return first_ring(told_pairs(trees))


def _pairs_without_ring(trees):
    """The pairs told above; NoRanking if there is a ring."""
    pairs = told_pairs(trees)
    ring = first_ring(pairs)
    if ring is not None:
        raise NoRanking(ring)
    return pairs


def orders_told(trees):
    """The number of rank orders of the told trees."""
    check_told_trees(trees)
    pairs = _pairs_without_ring(trees)
    return count_told_orders(told_keys(trees), pairs, {})


def order_told(trees, number):
    """The rank order of the told trees with this index."""
    check_told_trees(trees)
    check_number(number)
    pairs = _pairs_without_ring(trees)
    keys = told_keys(trees)
    if number >= count_told_orders(keys, pairs, {}):
        raise Refused("the told trees have no rank order with this index")
    return told_order_at(keys, pairs, number)


def surely_above(trees):
    """The ascending tuple of the pairs of keys of which the first one is ahead in each rank order."""
    check_told_trees(trees)
    return sure_pairs(_pairs_without_ring(trees))


def common_ranking(trees):
    """A ranking of 24 keys by which each told tree is the tree of its content."""
    check_told_trees(trees)
    pairs = _pairs_without_ring(trees)
    return ranking_from_top(told_order_at(told_keys(trees), pairs, 0))


def told_tree(trees, keys):
    """The tree of these keys, if it is the same by all possible rankings; otherwise None."""
    check_told_trees(trees)
    check_content(keys, MOST_KEYS)
    return _sure_tree(sure_pairs(_pairs_without_ring(trees)), keys)


def _sure_tree(sure, keys):
    """The tree in each of whose parts the key on top is surely above the others; None if there is none."""
    if not keys:
        return ()
    tops = [key for key in keys if all([(key, other) in sure for other in keys if other != key])]
    if not tops:
        return None
    at = keys.index(tops[0])
    left = _sure_tree(sure, keys[:at])
    right = _sure_tree(sure, keys[at + 1:])
    if left is None or right is None:
        return None
    return (left, tops[0], right)


def trees_left(trees, keys):
    """The ascending list of the trees that these keys have by the possible rankings."""
    check_told_trees(trees)
    check_content(keys, MOST_KEYS)
    pairs = _pairs_without_ring(trees)
    if len(keys) > MOST_SHAPED_KEYS:
        raise TooMany(MOST_SHAPED_KEYS)
    return [tree for tree in sorted(_trees_of(keys)) if first_ring(pairs + told_pairs((tree,))) is None]


def tells_all(ranking, contents):
    """Whether the trees of the contents leave no other order of the ranks."""
    check_ranking(ranking)
    check_contents(contents, len(ranking))
    told = [_told_steps(ranking, content) for content in contents]
    return all([any([steps[at] for steps in told]) for at in range(len(ranking) - 1)])


def _told_steps(ranking, content):
    """For each two keys whose ranks follow each other, from the greatest on, whether the tree has the one above."""
    falling = sorted(range(len(ranking)), key=lambda key: -ranking[key])
    return [_has_above(ranking, content, key, other) for key, other in zip(falling, falling[1:])]


def _has_above(ranking, content, key, other):
    """Whether the content has both keys, and the first one above the other one in its tree."""
    low = min(key, other)
    high = max(key, other)
    ranks = [ranking[member] for member in content if low <= member <= high]
    return key in content and other in content and max(ranks) == ranking[key]


def fewest_contents(ranking):
    """The least number of contents whose trees tell all."""
    _check_few_ranks(ranking)
    return len(_fewest_telling(ranking))


def telling_contents(ranking):
    """A tuple of the fewest contents whose trees tell all."""
    _check_few_ranks(ranking)
    return _fewest_telling(ranking)


def _check_few_ranks(ranking):
    check_ranking(ranking)
    if len(ranking) > MOST_TELLING_KEYS:
        raise TooMany(MOST_TELLING_KEYS)


# Lots of steps are told as the bits of a number. Each round takes one content more, so a lot
# of steps is first come to with the fewest contents.
def _fewest_telling(ranking):
    """The fewest contents whose trees tell each step of the ranks."""
    whole = sum([1 << at for at in range(len(ranking) - 1)])
    contents = _contents_by_steps(ranking)
    telling = {0: ()}
    while whole not in telling:
        for steps in list(telling):
            for more in contents:
                telling.setdefault(steps | more, telling[steps] + (contents[more],))
    return telling[whole]


def _contents_by_steps(ranking):
    """For each lot of steps that some content's tree tells the first such content."""
    keys = range(len(ranking))
    found = {}
    for bits in range(1 << len(ranking)):
        content = tuple([key for key in keys if bits >> key & 1])
        steps = sum([1 << at for at, told in enumerate(_told_steps(ranking, content)) if told])
        found.setdefault(steps, content)
    return found
