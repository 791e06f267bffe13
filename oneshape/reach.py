"""How far one deed reaches: which parts of a tree are new behind it."""

from oneshape.checks import check_content, check_ranking, check_tree, check_tree_and_key
from oneshape.errors import Refused
from oneshape.parts import all_parts, height_of, part_at, tree_by_ranks, tree_with, tree_without


def part_of(ranking, tree, key):
    """The part with this key on top."""
    check_tree_and_key(ranking, tree, key)
    part = part_at(tree, key)
    if not part:
        raise Refused("the key is not in the tree")
    return part


def parts_of(ranking, tree):
    """The list of all parts, by the keys on top ascending."""
    check_ranking(ranking)
    check_tree(ranking, tree)
    return all_parts(tree)


def _tree_behind(ranking, tree, key):
    if part_at(tree, key):
        return tree_without(ranking, tree, key)
    return tree_with(ranking, tree, key)


def behind(ranking, tree, key):
    """The tree behind the deed of the key."""
    check_tree_and_key(ranking, tree, key)
    return _tree_behind(ranking, tree, key)


def reach(ranking, tree, key):
    """The lot of the keys whose parts are new behind the deed of the key."""
    check_tree_and_key(ranking, tree, key)
    ahead = all_parts(tree)
    fresh = [part for part in all_parts(_tree_behind(ranking, tree, key)) if part not in ahead]
    return tuple([part[1] for part in fresh])


def longest_way(ranking, content):
    """The greatest number of keys of the way of a key of the content."""
    check_ranking(ranking)
    check_content(content, len(ranking))
    return height_of(tree_by_ranks(ranking, content))
