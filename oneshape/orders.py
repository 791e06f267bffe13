"""Sequences of keys from the greatest rank to the least: those of trees, and those of what is told above."""

from oneshape.parts import all_parts, keys_of


def count_forest_orders(forest):
    """In how many sequences the keys of these trees can stand, each ahead of the others of its part."""
    sizes = [len(keys_of(part)) for tree in forest for part in all_parts(tree)]
    many = 1
    for size in range(1, len(sizes) + 1):
        many = many * size
    for size in sizes:
        many = many // size
    return many


def forest_behind(forest, key):
    """The trees that are left, by ascending keys, when this key on top of one of them is taken away."""
    left = []
    for tree in forest:
        if tree[1] == key:
            left += [part for part in (tree[0], tree[2]) if part]
        else:
            left.append(tree)
    return left


def tree_order_at(search_tree, number):
    """The rank order of the tree with this index, which is less than their number."""
    order = []
    forest = [search_tree] if search_tree else []
    index = number
    while forest:
        for tree in forest:
            behind = forest_behind(forest, tree[1])
            many = count_forest_orders(behind)
            if index < many:
                break
            index -= many
        order.append(tree[1])
        forest = behind
    return tuple(order)


def tree_order_index(search_tree, order):
    """The index of this rank order of the tree."""
    index = 0
    forest = [search_tree]
    for key in order:
        lesser = [tree[1] for tree in forest if tree[1] < key]
        index += sum([count_forest_orders(forest_behind(forest, other)) for other in lesser])
        forest = forest_behind(forest, key)
    return index


def told_keys(trees):
    """The lot of the keys of these trees."""
    return tuple(sorted({key for tree in trees for key in keys_of(tree)}))


def told_pairs(trees):
    """The ascending tuple of the pairs of a key and one of the others that its part in a tree holds."""
    parts = [part for tree in trees for part in all_parts(tree)]
    return tuple(sorted({(part[1], key) for part in parts for key in keys_of(part) if key != part[1]}))


def sure_pairs(pairs):
    """The ascending tuple of these pairs and of all that follow from them by steps from pair to pair."""
    sure = {pair: True for pair in pairs}
    keys = sorted({key for pair in pairs for key in pair})
    for middle in keys:
        over = [key for key in keys if (key, middle) in sure]
        under = [key for key in keys if (middle, key) in sure]
        for key in over:
            for other in under:
                sure[(key, other)] = True
    return tuple(sorted(sure))


def steps_to(pairs, goal):
    """For each key from which one comes to the goal by steps from pair to pair the least number of steps, 1 or more."""
    steps = {}
    layer = [goal]
    many = 0
    while layer:
        many += 1
        layer = sorted({key for key, other in pairs if other in layer and key not in steps})
        for key in layer:
            steps[key] = many
    return steps


def first_ring(pairs):
    """The first one of the rings with the fewest keys; None if there is no ring."""
    sizes = {}
    for key in sorted({pair[0] for pair in pairs}):
        steps = steps_to(pairs, key)
        if key in steps:
            sizes[key] = steps[key]
    if not sizes:
        return None
    size = min(sizes.values())
    start = min([key for key in sizes if sizes[key] == size])
    steps = steps_to(pairs, start)
    ring = [start]
    # No ring has fewer keys, so one that leads back in just so many steps has no key twice.
    while len(ring) < size:
        left = size - len(ring)
        ring.append(min([other for key, other in pairs if key == ring[-1] and steps.get(other) == left]))
    return tuple(ring)


def free_keys(keys, pairs):
    """Those of the keys above which none of the keys is by the pairs."""
    under = [other for key, other in pairs if key in keys]
    return [key for key in keys if key not in under]


def count_told_orders(keys, pairs, known):
    """In how many sequences the keys can stand by the pairs; known keeps the numbers of the lots gone through."""
    if not keys:
        return 1
    if keys not in known:
        many = 0
        for key in free_keys(keys, pairs):
            many += count_told_orders(keys_but(keys, key), pairs, known)
        known[keys] = many
    return known[keys]


def keys_but(keys, gone):
    """The keys without this one."""
    return tuple([key for key in keys if key != gone])


def told_order_at(keys, pairs, number):
    """The sequence of the keys by the pairs with this index, which is less than their number."""
    order = []
    known = {}
    left = keys
    index = number
    while left:
        for key in free_keys(left, pairs):
            many = count_told_orders(keys_but(left, key), pairs, known)
            if index < many:
                break
            index -= many
        order.append(key)
        left = keys_but(left, key)
    return tuple(order)
