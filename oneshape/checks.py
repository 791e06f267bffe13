"""Of which kind a value is, and the errors for arguments that are not of their kind.

Kinds are asked for with type(x), as a truth is no integer here and no subclass counts.
"""

from oneshape.errors import (
    InvalidContent,
    InvalidContents,
    InvalidCount,
    InvalidKey,
    InvalidLevels,
    InvalidLot,
    InvalidOrder,
    InvalidRanking,
    InvalidStore,
    InvalidTree,
    InvalidTrees,
    InvalidWorth,
)
from oneshape.parts import MOST_KEYS, keys_of, ranking_from_top, tree_by_ranks

MOST_TOLD_TREES = 8
MOST_TOLD_KEYS = 10
MOST_CONTENTS = 8
MOST_STORES = 8
GREATEST_LEVEL = 4
GREATEST_WORTH = 999999999


def is_key_below(value, bound):
    """Whether the value is a key less than the bound."""
    return type(value) is int and 0 <= value < bound


def is_lot_below(value, bound):
    """Whether the value is a lot of keys less than the bound."""
    if type(value) is not tuple:
        return False
    least = 0
    for key in value:
        if not is_key_below(key, bound) or key < least:
            return False
        least = key + 1
    return True


def holds_ranking(value):
    """Whether the value is a ranking."""
    if type(value) is not tuple or len(value) > MOST_KEYS:
        return False
    return all([type(rank) is int for rank in value]) and len(set(value)) == len(value)


def holds_search_tree(value, least, bound):
    """Whether the value is a search tree of keys from least on that are less than the bound."""
    if type(value) is not tuple:
        return False
    if len(value) != 3:
        return len(value) == 0
    left, top, right = value
    if type(top) is not int or not least <= top < bound:
        return False
    return holds_search_tree(left, least, top) and holds_search_tree(right, top + 1, bound)


def holds_tree(ranking, value):
    """Whether the value is the tree of some content by the ranking."""
    if not holds_search_tree(value, 0, len(ranking)):
        return False
    return value == tree_by_ranks(ranking, keys_of(value))


def holds_order(search_tree, value):
    """Whether the value is a rank order of the search tree."""
    if type(value) is not tuple or not all([type(key) is int for key in value]):
        return False
    keys = keys_of(search_tree)
    if tuple(sorted(value)) != keys:
        return False
    # The keys, hung below one another in this sequence, make one tree only.
    return tree_by_ranks(ranking_from_top(value), keys) == search_tree


def holds_told_trees(value):
    """Whether the value is told trees."""
    if type(value) is not tuple or not 1 <= len(value) <= MOST_TOLD_TREES:
        return False
    if not all([holds_search_tree(tree, 0, MOST_KEYS) for tree in value]):
        return False
    return len({key for tree in value for key in keys_of(tree)}) <= MOST_TOLD_KEYS


def holds_levels(value):
    """Whether the value is levels."""
    if type(value) is not tuple or len(value) > MOST_KEYS:
        return False
    return all([type(level) is int and 0 <= level <= GREATEST_LEVEL for level in value])


def holds_worth(value):
    """Whether the value is a worth."""
    return type(value) is int and -GREATEST_WORTH <= value <= GREATEST_WORTH


def holds_store(value, bound):
    """Whether the value is a store of keys less than the bound."""
    if type(value) is not tuple:
        return False
    if not all([type(entry) is tuple and len(entry) == 2 and holds_worth(entry[1]) for entry in value]):
        return False
    return is_lot_below(tuple([entry[0] for entry in value]), bound)


def check_ranking(ranking):
    """InvalidRanking unless this is a ranking."""
    if not holds_ranking(ranking):
        raise InvalidRanking("a ranking is a tuple of at most 24 unlike integers")


def check_content(content, bound):
    """InvalidContent unless this is a content of keys less than the bound."""
    if not is_lot_below(content, bound):
        raise InvalidContent("a content is an ascending tuple of keys")


def check_tree(ranking, tree):
    """InvalidTree unless this is the tree of some content by the ranking."""
    if not holds_tree(ranking, tree):
        raise InvalidTree("this is not the tree of a content by the ranking")


def check_search_tree(search_tree):
    """InvalidTree unless this is a search tree."""
    if not holds_search_tree(search_tree, 0, MOST_KEYS):
        raise InvalidTree("a search tree is () or (left, key, right), keys from 0 to 23 in order")


def check_key(key, bound):
    """InvalidKey unless this is a key less than the bound."""
    if not is_key_below(key, bound):
        raise InvalidKey("a key is an integer from 0 on, less than the number of keys")


def check_number(number):
    """InvalidCount unless this is an integer from 0 on."""
    if type(number) is not int or number < 0:
        raise InvalidCount("a number is an integer from 0 on")


def check_count(count):
    """InvalidCount unless this is an integer from 1 on."""
    if type(count) is not int or count < 1:
        raise InvalidCount("a count is an integer from 1 on")


def check_size(size):
    """InvalidCount unless this is an integer from 1 to 24."""
    if type(size) is not int or not 1 <= size <= MOST_KEYS:
        raise InvalidCount("a size is an integer from 1 to 24")


def check_order(search_tree, order):
    """InvalidOrder unless this is a rank order of the search tree."""
    if not holds_order(search_tree, order):
        raise InvalidOrder("a rank order has all keys of the tree, each ahead of the others of its part")


def check_told_trees(trees):
    """InvalidTrees unless these are told trees."""
    if not holds_told_trees(trees):
        raise InvalidTrees("told trees are a tuple of 1 to 8 search trees with at most ten keys in all")


def check_contents(contents, bound):
    """InvalidContents unless this is a tuple of at most 8 contents of keys less than the bound."""
    if type(contents) is not tuple or len(contents) > MOST_CONTENTS:
        raise InvalidContents("contents are a tuple of at most 8 contents")
    if not all([is_lot_below(content, bound) for content in contents]):
        raise InvalidContents("each of the contents is an ascending tuple of keys")


def check_levels(levels):
    """InvalidLevels unless these are levels."""
    if not holds_levels(levels):
        raise InvalidLevels("levels are a tuple of at most 24 integers from 0 to 4")


def check_store(store, bound):
    """InvalidStore unless this is a store of keys less than the bound."""
    if not holds_store(store, bound):
        raise InvalidStore("a store is a tuple of tuples (key, worth), the keys ascending")


def check_lot(lot, bound):
    """InvalidLot unless this is a lot of keys less than the bound."""
    if not is_lot_below(lot, bound):
        raise InvalidLot("a lot is an ascending tuple of keys")


def check_worth(worth):
    """InvalidWorth unless this is a worth."""
    if not holds_worth(worth):
        raise InvalidWorth("a worth is an integer from -999999999 to 999999999")


def check_three_stores(base, one, other, bound):
    """InvalidStore unless all three are stores of keys less than the bound."""
    check_store(base, bound)
    check_store(one, bound)
    check_store(other, bound)


def check_several(several):
    """InvalidStore unless this is a tuple of 1 to 8 stores."""
    if type(several) is not tuple or not 1 <= len(several) <= MOST_STORES:
        raise InvalidStore("several stores are a tuple of 1 to 8 stores")
    for store in several:
        check_store(store, MOST_KEYS)


def check_two_trees(ranking, tree, other_tree):
    """The errors of these three parameters, in their order."""
    check_ranking(ranking)
    check_tree(ranking, tree)
    check_tree(ranking, other_tree)


def check_two_stores(ranking, store, other_store):
    """The errors of these three parameters, in their order."""
    check_ranking(ranking)
    check_store(store, len(ranking))
    check_store(other_store, len(ranking))


def check_tree_and_key(ranking, tree, key):
    """The errors of these three parameters, in their order."""
    check_ranking(ranking)
    check_tree(ranking, tree)
    check_key(key, len(ranking))


def check_content_and_key(ranking, content, key):
    """The errors of these three parameters, in their order."""
    check_ranking(ranking)
    check_content(content, len(ranking))
    check_key(key, len(ranking))
