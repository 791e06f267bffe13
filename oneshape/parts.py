"""Steps over trees and keys that are known to be good; nothing is checked here."""

MOST_KEYS = 24


def tree_by_ranks(ranking, keys):
    """The tree of these ascending keys."""
    if not keys:
        return ()
    top = max(keys, key=lambda key: ranking[key])
    at = keys.index(top)
    return (tree_by_ranks(ranking, keys[:at]), top, tree_by_ranks(ranking, keys[at + 1:]))


def keys_of(tree):
    """The keys of the tree, ascending."""
    if not tree:
        return ()
    left, top, right = tree
    return keys_of(left) + (top,) + keys_of(right)


def way_in(tree, key):
    """The keys that one comes by on the way to the key, from the top on."""
    passed = []
    part = tree
    while part:
        left, top, right = part
        passed.append(top)
        if top == key:
            return tuple(passed)
        part = left if key < top else right
    return tuple(passed)


def part_at(tree, key):
    """The part with this key on top; () if the key is not there."""
    part = tree
    while part:
        left, top, right = part
        if top == key:
            return part
        part = left if key < top else right
    return ()


def all_parts(tree):
    """The list of the parts of the tree, by the keys on top ascending."""
    if not tree:
        return []
    left, _, right = tree
    return all_parts(left) + [tree] + all_parts(right)


def tree_with(ranking, tree, key):
    """The tree of the keys of the tree and a key that is not there."""
    return tree_by_ranks(ranking, tuple(sorted(keys_of(tree) + (key,))))


def tree_without(ranking, tree, key):
    """The tree of the keys of the tree other than this one."""
    return tree_by_ranks(ranking, tuple([kept for kept in keys_of(tree) if kept != key]))


def height_of(tree):
    """The greatest number of keys of a way of a key of the tree."""
    if not tree:
        return 0
    left, _, right = tree
    return 1 + max(height_of(left), height_of(right))


def keys_less(keys, bound):
    """Those of the ascending keys that are less than the bound."""
    return tuple([key for key in keys if key < bound])


def keys_greater(keys, bound):
    """Those of the ascending keys that are greater than the bound."""
    return tuple([key for key in keys if key > bound])


def keys_of_either(keys, other_keys):
    """The lot of the keys that at least one of both lots has."""
    return tuple(sorted(set(keys) | set(other_keys)))


def keys_of_one_alone(keys, other_keys):
    """The lot of the keys that just one of both lots has."""
    return tuple(sorted(set(keys) ^ set(other_keys)))


def ranking_from_top(order):
    """A ranking of 24 keys: those of the order have the greatest ranks, the first one the greatest of all."""
    row = list(order) + [key for key in range(MOST_KEYS) if key not in order]
    return tuple([MOST_KEYS - 1 - row.index(key) for key in range(MOST_KEYS)])
