"""Trees of one ranking, parted, put together, and laid over each other."""

from oneshape.checks import check_content, check_tree_and_key, check_two_trees
from oneshape.errors import InvalidCount, Refused
from oneshape.parts import (
    MOST_KEYS,
    all_parts,
    keys_greater,
    keys_less,
    keys_of,
    keys_of_either,
    keys_of_one_alone,
    ranking_from_top,
    tree_by_ranks,
)


def parted(ranking, tree, key):
    """The tree of the lesser keys, whether the key is there, and the tree of the greater keys."""
    check_tree_and_key(ranking, tree, key)
    keys = keys_of(tree)
    low = tree_by_ranks(ranking, keys_less(keys, key))
    high = tree_by_ranks(ranking, keys_greater(keys, key))
    return (low, key in keys, high)


def joined(ranking, tree, other_tree):
    """The tree of the keys of both, those of the first one less than those of the other one."""
    check_two_trees(ranking, tree, other_tree)
    low = keys_of(tree)
    high = keys_of(other_tree)
    if low and high and low[-1] >= high[0]:
        raise Refused("a key of the first tree is not less than each of the other one")
    return tree_by_ranks(ranking, low + high)


def either_tree(ranking, tree, other_tree):
    """The tree of the keys that at least one of both has."""
    check_two_trees(ranking, tree, other_tree)
    return tree_by_ranks(ranking, keys_of_either(keys_of(tree), keys_of(other_tree)))


def common_tree(ranking, tree, other_tree):
    """The tree of the keys that both have."""
    check_two_trees(ranking, tree, other_tree)
    other_keys = keys_of(other_tree)
    return tree_by_ranks(ranking, tuple([key for key in keys_of(tree) if key in other_keys]))


def less_tree(ranking, tree, other_tree):
    """The tree of the keys that the first one has and the other one has not."""
    check_two_trees(ranking, tree, other_tree)
    other_keys = keys_of(other_tree)
    return tree_by_ranks(ranking, tuple([key for key in keys_of(tree) if key not in other_keys]))


def unlike_tree(ranking, tree, other_tree):
    """The tree of the keys that just one of both has."""
    check_two_trees(ranking, tree, other_tree)
    return tree_by_ranks(ranking, keys_of_one_alone(keys_of(tree), keys_of(other_tree)))


def opened(ranking, tree, other_tree):
    """The lot of the keys at which stretches are parted when both trees are laid over each other."""
    check_two_trees(ranking, tree, other_tree)
    return _opened_in(ranking, keys_of(tree), keys_of(other_tree))


def _opened_in(ranking, one, other):
    """The lot of the opened keys of a stretch in which the two contents have these keys."""
    if not one or not other:
        return ()
    top = max(one + other, key=lambda key: ranking[key])
    low = _opened_in(ranking, keys_less(one, top), keys_less(other, top))
    high = _opened_in(ranking, keys_greater(one, top), keys_greater(other, top))
    return low + (top,) + high


def fresh(ranking, tree, other_tree):
    """The lot of the keys whose parts in the tree of either are parts of neither of both trees."""
    check_two_trees(ranking, tree, other_tree)
    known = all_parts(tree) + all_parts(other_tree)
    both = tree_by_ranks(ranking, keys_of_either(keys_of(tree), keys_of(other_tree)))
    return tuple([part[1] for part in all_parts(both) if part not in known])


def opened_bounds(keys, other_keys):
    """The least and the greatest number of opened keys of these two contents, by any ranking."""
    check_content(keys, MOST_KEYS)
    check_content(other_keys, MOST_KEYS)
    return _bounds(keys, other_keys)


def _bounds(one, other):
    if not one or not other:
        return (0, 0)
    many = len(keys_of_either(one, other))
    # A stretch of one key is parted only if both have this key; some such stretch comes last.
    most = many if any([key in other for key in one]) else many - 1
    return (len(_fewest_opened(one, other)), most)


def _fewest_opened(one, other):
    """Keys that leave no stretch between them in which both have some key; the fewest such ones."""
    counted = []
    passed_one = False
    passed_other = False
    for key in keys_of_either(one, other):
        in_one = key in one or passed_one
        in_other = key in other or passed_other
        if in_one and in_other:
            counted.append(key)
        passed_one = in_one and not in_other
        passed_other = in_other and not in_one
    return tuple(counted)


# Opened one by one from the ends, the keys outside of a core in which both have some key
# are all opened. Each one more of them makes the fewest of the rest the same or 1 less, so
# the number of all opened keys rises by 1 or stays: no number up to the most is left out.
def opening_ranking(keys, other_keys, number):
    """A ranking of 24 keys by which just so many keys of these two contents are opened."""
    check_content(keys, MOST_KEYS)
    check_content(other_keys, MOST_KEYS)
    least, most = _bounds(keys, other_keys)
    if type(number) is not int or not least <= number <= most:
        raise InvalidCount("by no ranking just so many keys are opened")
    outer = _outer_keys(keys, other_keys)
    first = ()
    then = _fewest_opened(keys, other_keys)
    while len(first) + len(then) < number:
        first = outer[:len(first) + 1]
        then = _fewest_opened(_without(keys, first), _without(other_keys, first))
    return ranking_from_top(first + then)


def _without(keys, gone):
    return tuple([key for key in keys if key not in gone])


def _outer_keys(one, other):
    """The keys of either but for a core: a common key, or else two neighbours, one of each; from both ends inwards."""
    row = keys_of_either(one, other)
    for width in (1, 2):
        for low in range(len(row)):
            core = row[low:low + width]
            if any([key in one for key in core]) and any([key in other for key in core]):
                return row[:low] + row[low + width:][::-1]
    return ()
