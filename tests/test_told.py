"""Told trees: point [13], facts B5 and B6."""

import unittest
from itertools import combinations, permutations
from math import factorial

from helpers import (
    grown_tree, held_by, hung_all, lots, numbers, parts_by_top, raised, shapes_by_orders, shuffled, wide_rankings,
)
from oneshape.errors import InvalidTrees, NoRanking, Refused, TooMany
from oneshape.shapes import (
    all_trees, common_ranking, order_told, orders_told, rank_order_at, rank_orders, ring_of, surely_above, told_above,
    told_tree, trees_left,
)
from oneshape.trees import is_ranking, tree_of

FUNCTIONS = [
    (orders_told, ()), (order_told, (0,)), (order_told, (10 ** 89,)), (surely_above, ()), (common_ranking, ()),
    (told_tree, ((),)), (told_tree, ((0, 1),)), (trees_left, ((),)), (trees_left, (tuple(range(7)),)),
]


def pairs_told(trees):
    return sorted({(top, key) for tree in trees for top, part in parts_by_top(tree).items()
                   for key in held_by(part) if key != top})


def keys_told(trees):
    return sorted({key for tree in trees for key in held_by(tree)})


def orders_by_trees(trees, keys):
    """All sequences of the keys, ascending, by which each tree grows from its own keys."""
    return [order for order in permutations(sorted(keys))
            if all(hung_all([key for key in order if key in held_by(tree)]) == tree for tree in trees)]


def first_ring(pairs, keys):
    for size in range(2, len(keys) + 1):
        for ring in permutations(keys, size):
            if all((key, other) in pairs for key, other in zip(ring, ring[1:] + ring[:1])):
                return ring
    return None


def told_by_one_ranking(seed, keys, sizes):
    """Trees of contents of so many of the keys, all by one drawn ranking."""
    order = shuffled(keys, seed)
    return tuple(hung_all([key for key in order if key in shuffled(keys, seed * 31 + at)[:size]])
                 for at, size in enumerate(sizes))


def told_by_several(seed, keys, sizes):
    """Trees of contents of so many of the keys, each by a drawn ranking of its own: often with a ring."""
    return tuple(hung_all(shuffled(keys, seed * 17 + at)[:size]) for at, size in enumerate(sizes))


def samples():
    found = [((),), ((), ()), (((), 5, ()),), ((), ((), 5, ()), ())]
    draws = numbers(71)
    for seed in range(60):
        keys = shuffled(range(24), seed)[:2 + seed % 5]
        sizes = [next(draws) % (len(keys) + 1) for _ in range(1 + next(draws) % 8)]
        found.append(told_by_one_ranking(seed, keys, sizes))
        found.append(told_by_one_ranking(seed, keys, [min(size, 2) for size in sizes]))
        found.append(told_by_several(seed, keys, [min(size, 2) for size in sizes[:4]]))
        found.append(told_by_several(seed, keys, sizes[:3]))
    found += [(tree, tree) for tree in all_trees((1, 4, 20))]
    found += [(one, other) for one in all_trees((0, 1, 2)) for other in all_trees((1, 2, 3))]
    return found


def pair(over, under):
    """The tree of two keys, the first one above the other one."""
    return hung_all([over, under])


class Told(unittest.TestCase):
    def check_orders(self, trees):
        pairs, keys = pairs_told(trees), keys_told(trees)
        orders = orders_by_trees(trees, keys)
        self.assertEqual(repr(told_above(trees)), repr(tuple(pairs)))
        ring = first_ring(pairs, keys)
        self.assertEqual(repr(ring_of(trees)), repr(ring))
        self.assertEqual(ring is None, bool(orders))
        if ring is not None:
            self.check_ring(trees, ring)
            return
        self.assertEqual(repr(orders_told(trees)), repr(len(orders)))
        self.assertEqual(repr([order_told(trees, at) for at in range(min(len(orders), 30))]), repr(orders[:30]))
        self.assertEqual(order_told(trees, len(orders) - 1), orders[-1])
        for number in (len(orders), len(orders) + 3, 10 ** 89):
            self.assertIs(type(raised(order_told, trees, number)), Refused)
        sure = tuple((key, other) for key in keys for other in keys if key != other
                     and all(order.index(key) < order.index(other) for order in orders))
        self.assertEqual(repr(surely_above(trees)), repr(sure))
        self.assertLessEqual(set(pairs), set(sure))
        self.assertLessEqual({(a, d) for a, b in sure for c, d in sure if b == c}, set(sure))
        self.check_ranking(trees)

    def check_ring(self, trees, ring):
        for function, more in FUNCTIONS:
            error = raised(function, trees, *more)
            self.assertIs(type(error), NoRanking, function)
            self.assertEqual(repr(error.ring), repr(ring))

    def check_ranking(self, trees):
        ranking = common_ranking(trees)
        self.assertTrue(is_ranking(ranking))
        self.assertEqual(len(ranking), 24)
        self.assertTrue(all(abs(rank) < 10 ** 90 for rank in ranking))
        for tree in trees:
            self.assertEqual(repr(tree_of(ranking, held_by(tree))), repr(tree))

    def check_shapes(self, trees, keys):
        """told_tree and trees_left of the keys, by all sequences of these and of the keys told."""
        orders = orders_by_trees(trees, set(keys) | set(keys_told(trees)))
        shapes = sorted({hung_all([key for key in order if key in keys]) for order in orders})
        left = trees_left(trees, keys)
        self.assertIs(type(left), list)
        self.assertEqual(repr(left), repr(shapes))
        self.assertEqual(repr(told_tree(trees, keys)), repr(shapes[0] if len(shapes) == 1 else None))

    def test_by_all_sequences_of_the_keys(self):
        with_ring = without = 0
        for trees in samples():
            self.check_orders(trees)
            with_ring += ring_of(trees) is not None
            without += ring_of(trees) is None
        self.assertGreater(min(with_ring, without), 30)

    def test_shapes_by_all_sequences_of_the_keys(self):
        for trees in samples()[::3]:
            keys = keys_told(trees)
            if ring_of(trees) is not None or len(keys) > 5:
                continue
            for lot in lots(len(keys)):
                self.check_shapes(trees, tuple(keys[at] for at in lot))
            others = [key for key in (0, 3, 11, 12, 23) if key not in keys]
            for key in others[:2]:
                for lot in lots(min(len(keys), 3)):
                    self.check_shapes(trees, tuple(sorted([keys[at] for at in lot] + [key])))

    def test_keys_that_no_told_tree_has(self):
        for trees in [((),), (pair(3, 4),), (pair(3, 4), pair(9, 4))]:
            for keys in [(), (0,), (0, 1), (0, 3), (0, 3, 4), (0, 1, 5, 6), (0, 1, 3, 4, 23), (4, 23)]:
                self.check_shapes(trees, keys)
        self.assertEqual(trees_left(((),), (1, 2, 5, 6, 20, 23)), all_trees((1, 2, 5, 6, 20, 23)))
        self.assertIsNone(told_tree(((),), tuple(range(24))))
        self.assertEqual(told_tree((pair(0, 1),), (20,)), ((), 20, ()))

    def test_a_told_tree_is_told_back(self):
        for trees in samples():
            if ring_of(trees) is not None:
                continue
            for tree in trees:
                self.assertEqual(repr(told_tree(trees, held_by(tree))), repr(tree))
                if len(held_by(tree)) <= 6:
                    self.assertEqual(repr(trees_left(trees, held_by(tree))), repr([tree]))

    def test_told_trees_by_b6(self):
        for seed in range(25):
            trees = told_by_one_ranking(seed, shuffled(range(24), seed)[:10], [5, 4, 3, 6])
            sure, order = surely_above(trees), order_told(trees, 0)
            for size in range(6):
                for keys in list(combinations(sorted(order), size))[::11]:
                    tree = hung_all([key for key in order if key in keys])
                    fixed = all((top, key) in sure for top, part in parts_by_top(tree).items()
                                for key in held_by(part) if key != top)
                    self.assertEqual(repr(told_tree(trees, keys)), repr(tree if fixed else None))
                    self.assertEqual(len(trees_left(trees, keys)) == 1, fixed)

    def test_one_told_tree_has_its_own_rank_orders(self):
        for keys in [(), (7,), (0, 5, 9), (0, 1, 2, 3), (1, 3, 8, 20, 23)]:
            for tree, orders in shapes_by_orders(keys).items():
                self.assertEqual(orders_told((tree,)), rank_orders(tree))
                self.assertEqual([order_told((tree,), at) for at in range(len(orders))], orders)
        for seed in range(6):
            tree = hung_all(shuffled(range(24), seed)[:10])
            many = orders_told((tree,))
            self.assertEqual(many, rank_orders(tree))
            for number in {0, 1 % many, many // 3, many // 2, many - 1}:
                self.assertEqual(order_told((tree, tree), number), rank_order_at(tree, number))

    def test_ten_keys(self):
        single = tuple(((), key, ()) for key in range(8))
        self.assertEqual(orders_told(single), factorial(8))
        self.assertEqual(order_told(single, factorial(8) - 1), tuple(range(7, -1, -1)))
        self.assertEqual(surely_above(single), ())
        two = tuple(pair(2 * at, 2 * at + 1) for at in range(5))
        self.assertEqual(orders_told(two), factorial(10) // 2 ** 5)
        self.assertEqual(order_told(two, 0), tuple(range(10)))
        self.assertEqual(order_told(two, factorial(10) // 2 ** 5 - 1), (8, 9, 6, 7, 4, 5, 2, 3, 0, 1))
        self.assertIs(type(raised(order_told, two, factorial(10) // 2 ** 5)), Refused)
        star = tuple(pair(23, key) for key in range(8)) + ((),)
        self.assertIs(type(raised(orders_told, star)), InvalidTrees)
        self.assertEqual(orders_told(star[:8]), factorial(8))
        for ranking in wide_rankings():
            trees = tuple(grown_tree(ranking, keys) for keys in [(0, 1, 2), (2, 3, 4), (4, 5, 6), (6, 7, 8), (0, 8, 9)])
            many, order = orders_told(trees), order_told(trees, 0)
            self.assertEqual(sorted(order), list(range(10)))
            seen = [order_told(trees, number) for number in range(0, many, max(1, many // 40))]
            self.assertEqual(seen, sorted(set(seen)))
            for order in seen + [order_told(trees, many - 1)]:
                self.assertTrue(all(hung_all([key for key in order if key in held_by(tree)]) == tree for tree in trees))
            self.check_ranking(trees)

    def test_one_more_told_tree_never_makes_more_orders(self):
        for trees in samples():
            if ring_of(trees) is not None or len(trees) < 2:
                continue
            free = len(keys_told(trees)) - len(keys_told(trees[:-1]))
            more = factorial(len(keys_told(trees))) // factorial(len(keys_told(trees)) - free)
            self.assertLessEqual(orders_told(trees), orders_told(trees[:-1]) * more)
            self.assertLessEqual(set(surely_above(trees[:-1])), set(surely_above(trees)))

    def test_too_many_keys(self):
        for size in (7, 8, 24):
            error = raised(trees_left, (pair(0, 1),), tuple(range(size)))
            self.assertIs(type(error), TooMany)
            self.assertEqual(repr(error.count), "6")
            self.assertIsNone(told_tree((pair(0, 1),), tuple(range(size))))
        chain = hung_all(range(10))
        self.assertEqual(told_tree((chain,), tuple(range(10))), chain)
        self.assertIs(type(raised(trees_left, (chain,), tuple(range(10)))), TooMany)

    def test_each_list_is_new(self):
        first = trees_left((pair(0, 1),), (0, 1, 2))
        kept = list(first)
        first.clear()
        self.assertEqual(trees_left((pair(0, 1),), (0, 1, 2)), kept)


class Rings(unittest.TestCase):
    def test_the_shortest_and_first_ring(self):
        ring3 = (pair(5, 7), pair(7, 9), pair(9, 5))
        self.assertEqual(ring_of(ring3), (5, 7, 9))
        self.assertEqual(ring_of(ring3[::-1]), (5, 7, 9))
        self.assertEqual(ring_of((pair(5, 9), pair(9, 7), pair(7, 5))), (5, 9, 7))
        self.assertEqual(ring_of(ring3 + (pair(20, 21), pair(21, 20))), (20, 21))
        self.assertEqual(ring_of(ring3 + (pair(1, 23), pair(23, 2), pair(2, 1))), (1, 23, 2))
        self.assertEqual(ring_of((pair(3, 4), pair(4, 3), pair(1, 2), pair(2, 1))), (1, 2))
        self.assertEqual(ring_of((pair(0, 9), pair(9, 5), pair(5, 0), pair(0, 7), pair(7, 5))), (0, 7, 5))
        self.assertIsNone(ring_of((pair(0, 1), pair(1, 2), pair(0, 2))))
        self.assertIsNone(ring_of(((),)))

    def test_long_rings(self):
        for size in range(2, 9):
            keys = shuffled(range(24), size)[:size]
            trees = tuple(pair(key, other) for key, other in zip(keys, keys[1:] + keys[:1]))
            at = keys.index(min(keys))
            self.assertEqual(ring_of(trees), keys[at:] + keys[:at])
            self.assertIsNone(ring_of(trees[1:]))
            error = raised(common_ranking, trees)
            self.assertIs(type(error), NoRanking)
            self.assertEqual(error.ring, keys[at:] + keys[:at])

    def test_rings_of_ten_keys(self):
        for seed in range(40):
            keys = shuffled(range(24), seed)[:10]
            trees = told_by_several(seed, keys, [3, 3, 2, 2, 3, 2, 3, 2][:2 + seed % 7])
            pairs = pairs_told(trees)
            ring = ring_of(trees)
            wanted = next((found for size in range(2, 6) for found in permutations(keys_told(trees), size)
                           if found[0] == min(found) and all(step in pairs for step in zip(found, found[1:] + found[:1]))),
                          None)
            self.assertTrue(ring == wanted or wanted is None and (ring is None or len(ring) > 5), (trees, ring))


if __name__ == "__main__":
    unittest.main()
