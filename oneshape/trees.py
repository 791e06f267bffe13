"""Trees by ranks, and search trees with their texts."""

from oneshape.checks import (
    check_content,
    check_content_and_key,
    check_key,
    check_ranking,
    check_search_tree,
    check_tree,
    check_tree_and_key,
    holds_ranking,
    holds_search_tree,
    holds_tree,
)
from oneshape.errors import InvalidText, Refused
from oneshape.parts import MOST_KEYS, keys_of, part_at, tree_by_ranks, tree_with, tree_without, way_in


def is_ranking(value):
    """Whether any value is a ranking."""
    return holds_ranking(value)


def is_tree(ranking, value):
    """Whether any value is the tree of some content by the ranking."""
    check_ranking(ranking)
    return holds_tree(ranking, value)


def tree_of(ranking, content):
    """The tree of the content."""
    check_ranking(ranking)
    check_content(content, len(ranking))
    return tree_by_ranks(ranking, content)


def content_of(ranking, tree):
    """The content whose tree this is."""
    check_ranking(ranking)
    check_tree(ranking, tree)
    return keys_of(tree)


def least_ranking(ranking):
    """The ranking with the ranks 0, 1, .. by which each content has the same tree."""
    check_ranking(ranking)
    ascending = sorted(ranking)
    return tuple([ascending.index(rank) for rank in ranking])


def way(ranking, tree, key):
    """The keys of the way of the key, from the top on."""
    check_tree_and_key(ranking, tree, key)
    return way_in(tree, key)


def _check_member(ranking, content, key):
    """The errors of the parameters, then Refused unless the key is in the content."""
    check_content_and_key(ranking, content, key)
    if key not in content:
        raise Refused("the key is not in the content")


def above(ranking, content, key):
    """The lot of the other keys whose parts hold the key."""
    _check_member(ranking, content, key)
    passed = way_in(tree_by_ranks(ranking, content), key)
    return tuple(sorted(passed[:-1]))


def below(ranking, content, key):
    """The lot of the other keys that the part of the key holds."""
    _check_member(ranking, content, key)
    left, _, right = part_at(tree_by_ranks(ranking, content), key)
    return keys_of(left) + keys_of(right)


def top_between(ranking, content, key, other_key):
    """The key of the content with the greatest rank from the one key to the other; None if there is none."""
    check_content_and_key(ranking, content, key)
    check_key(other_key, len(ranking))
    low = min(key, other_key)
    high = max(key, other_key)
    held = [member for member in content if low <= member <= high]
    return max(held, key=lambda member: ranking[member], default=None)


def put_in(ranking, tree, key):
    """The tree with the key, too."""
    check_tree_and_key(ranking, tree, key)
    if key in keys_of(tree):
        raise Refused("the key is in the tree")
    return tree_with(ranking, tree, key)


def taken_out(ranking, tree, key):
    """The tree without the key."""
    check_tree_and_key(ranking, tree, key)
    if key not in keys_of(tree):
        raise Refused("the key is not in the tree")
    return tree_without(ranking, tree, key)


def is_search_tree(value):
    """Whether any value is a search tree."""
    return holds_search_tree(value, 0, MOST_KEYS)


def tree_text(search_tree):
    """The text of the search tree."""
    check_search_tree(search_tree)
    return _text_of(search_tree)


def _text_of(search_tree):
    if not search_tree:
        return "-"
    left, top, right = search_tree
    return f"({_text_of(left)},{top},{_text_of(right)})"


def tree_told(text):
    """The search tree with this text."""
    if type(text) is not str:
        raise InvalidText(0)
    tree, at, _ = _read_tree(text, 0, 0, 0)
    if at < len(text):
        raise InvalidText(at)
    return tree


# The keys of a text stand in ascending order. So a text can go on to that of a search
# tree as long as the keys from `least` on suffice for all keys that must still come:
# one for each of the `waiting` parts that are begun and whose key is not yet told.
def _read_tree(text, at, least, waiting):
    """The tree whose text begins at the index, the index behind it, and the next least key."""
    if text[at:at + 1] == "-":
        return (), at + 1, least
    if text[at:at + 1] != "(" or least + waiting >= MOST_KEYS:
        raise InvalidText(at)
    left, at, least = _read_tree(text, at + 1, least, waiting + 1)
    at = _read_sign(text, at, ",")
    top, at = _read_key(text, at, least, MOST_KEYS - waiting)
    at = _read_sign(text, at, ",")
    right, at, least = _read_tree(text, at, top + 1, waiting)
    at = _read_sign(text, at, ")")
    return (left, top, right), at, least


def _read_sign(text, at, sign):
    """The index behind the sign that must stand at this index."""
    if text[at:at + 1] != sign:
        raise InvalidText(at)
    return at + 1


def _read_key(text, at, least, bound):
    """The key from least on, less than the bound, whose digits begin at the index, and the index behind."""
    names = [str(key) for key in range(least, bound)]
    end = at
    while end < len(text) and any([name.startswith(text[at:end + 1]) for name in names]):
        end += 1
    if text[at:end] not in names:
        raise InvalidText(end)
    return int(text[at:end]), end
