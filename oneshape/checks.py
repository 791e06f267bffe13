"""Of which kind a value is, and the errors for arguments that are not of their kind.

Kinds are asked for with type(x), as a truth is no integer here and no subclass counts.
"""

from oneshape.errors import InvalidContent, InvalidKey, InvalidRanking, InvalidTree
from oneshape.parts import keys_of, tree_by_ranks

MOST_KEYS = 24


def is_key_below(value, bound):
    """Whether the value is a key less than the bound."""
    return type(value) is int and 0 <= value < bound


def is_lot_below(value, bound):
    """Whether the value is a lot of keys less than the bound."""
    if type(value) is not tuple:
        return False
    least = 0
    for key in value:
        if not is_key_below(key, bound) or key < least:
            return False
        least = key + 1
    return True


def holds_ranking(value):
    """Whether the value is a ranking."""
    if type(value) is not tuple or len(value) > MOST_KEYS:
        return False
    return all([type(rank) is int for rank in value]) and len(set(value)) == len(value)


def holds_search_tree(value, least, bound):
    """Whether the value is a search tree of keys from least on that are less than the bound."""
    if type(value) is not tuple:
        return False
    if len(value) != 3:
        return len(value) == 0
    left, top, right = value
    if type(top) is not int or not least <= top < bound:
        return False
    return holds_search_tree(left, least, top) and holds_search_tree(right, top + 1, bound)


def holds_tree(ranking, value):
    """Whether the value is the tree of some content by the ranking."""
    if not holds_search_tree(value, 0, len(ranking)):
        return False
    return value == tree_by_ranks(ranking, keys_of(value))


def check_ranking(ranking):
    """InvalidRanking unless this is a ranking."""
    if not holds_ranking(ranking):
        raise InvalidRanking("a ranking is a tuple of at most 24 unlike integers")


def check_content(content, bound):
    """InvalidContent unless this is a content of keys less than the bound."""
    if not is_lot_below(content, bound):
        raise InvalidContent("a content is an ascending tuple of keys")


def check_tree(ranking, tree):
    """InvalidTree unless this is the tree of some content by the ranking."""
    if not holds_tree(ranking, tree):
        raise InvalidTree("this is not the tree of a content by the ranking")


def check_search_tree(search_tree):
    """InvalidTree unless this is a search tree."""
    if not holds_search_tree(search_tree, 0, MOST_KEYS):
        raise InvalidTree("a search tree is () or (left, key, right), keys from 0 to 23 in order")


def check_key(key, bound):
    """InvalidKey unless this is a key less than the bound."""
    if not is_key_below(key, bound):
        raise InvalidKey("a key is an integer from 0 on, less than the number of keys")


def check_tree_and_key(ranking, tree, key):
    """The errors of these three parameters, in their order."""
    check_ranking(ranking)
    check_tree(ranking, tree)
    check_key(key, len(ranking))


def check_content_and_key(ranking, content, key):
    """The errors of these three parameters, in their order."""
    check_ranking(ranking)
    check_content(content, len(ranking))
    check_key(key, len(ranking))
