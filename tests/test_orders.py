"""all_trees, and rank orders of search trees: point [12], fact B4."""

import unittest
from itertools import permutations
from math import comb, factorial

from helpers import (
    OwnTuple, grown_tree, held_by, hung_all, parts_by_top, raised, shapes_by_orders, shuffled, wide_rankings,
)
from oneshape.errors import Refused, TooMany
from oneshape.shapes import all_trees, is_rank_order, rank_order_at, rank_order_index, rank_orders
from oneshape.trees import is_search_tree

FEW_KEYS = [(), (0,), (23,), (0, 1), (3, 17), (0, 1, 2), (4, 5, 22), (0, 1, 2, 3), (1, 8, 9, 23), (0, 1, 2, 3, 4),
            (2, 3, 11, 20, 23)]


def counted(tree):
    """The number of rank orders, told from those of both sides."""
    if tree == ():
        return 1
    left, right = len(held_by(tree[0])), len(held_by(tree[2]))
    return comb(left + right, left) * counted(tree[0]) * counted(tree[2])


def end_order(tree, choose):
    """The first or the last rank order: at each place the least or greatest key that may stand there."""
    order, free = [], [tree]
    while any(free):
        part = choose([part for part in free if part], key=lambda part: part[1])
        free.remove(part)
        free += [part[0], part[2]]
        order.append(part[1])
    return tuple(order)


def large_trees():
    trees = [grown_tree(ranking, range(24)) for ranking in wide_rankings()]
    trees += [hung_all(shuffled(range(24), seed)[:size]) for seed, size in enumerate([24, 24, 20, 17, 12, 9, 7])]
    balanced = hung_all([11, 5, 17, 2, 8, 14, 20, 0, 3, 6, 9, 12, 15, 18, 21, 1, 4, 7, 10, 13, 16, 19, 22, 23])
    return trees + [balanced]


class AllTrees(unittest.TestCase):
    def test_against_all_sequences(self):
        for keys in FEW_KEYS + [(0, 1, 2, 3, 4, 5), (0, 2, 9, 10, 22, 23)]:
            told = all_trees(keys)
            self.assertIs(type(told), list)
            self.assertEqual(repr(told), repr(sorted(shapes_by_orders(keys))))
            self.assertTrue(all(is_search_tree(tree) for tree in told))
            self.assertEqual(sum(rank_orders(tree) for tree in told), factorial(len(keys)))

    def test_how_many_there_are(self):
        self.assertEqual([len(all_trees(tuple(range(size)))) for size in range(7)], [1, 1, 2, 5, 14, 42, 132])
        self.assertEqual(all_trees(()), [()])

    def test_more_than_six_keys(self):
        for size in (7, 8, 12, 24):
            error = raised(all_trees, tuple(range(size)))
            self.assertIs(type(error), TooMany)
            self.assertEqual(repr(error.count), "6")

    def test_each_list_is_new(self):
        first = all_trees((0, 4))
        first.append("mark")
        self.assertEqual(all_trees((0, 4)), first[:2])


class RankOrders(unittest.TestCase):
    def test_by_all_sequences_of_few_keys(self):
        for keys in FEW_KEYS:
            shapes = shapes_by_orders(keys)
            for tree, orders in shapes.items():
                self.assertEqual(repr(rank_orders(tree)), repr(len(orders)))
                self.assertEqual(repr([rank_order_at(tree, at) for at in range(len(orders))]), repr(sorted(orders)))
                for index, order in enumerate(sorted(orders)):
                    self.assertEqual(repr(rank_order_index(tree, order)), repr(index))
                for number in (len(orders), len(orders) + 1, 10 ** 89):
                    self.assertIs(type(raised(rank_order_at, tree, number)), Refused)
                for sequence in permutations(keys):
                    self.assertIs(is_rank_order(tree, sequence), sequence in orders)

    def test_nearly_rank_orders(self):
        tree = (((), 0, ()), 1, (((), 2, ()), 3, ()))
        self.assertIs(is_rank_order(tree, (1, 3, 0, 2)), True)
        for value in [(), (1,), (1, 3, 2), (1, 3, 0), (3, 2, 0), (1, 3, 0, 2, 2), (1, 3, 0, 2, 4), (1, 3, 0, 0),
                      (1, 3, 0, 4), (1, 1, 3, 0, 2), [1, 3, 0, 2], (True, 3, 0, 2), (1, 3, False, 2), (1, 3, "0", 2),
                      (1, 3, 0, 2.0), (1, 3, (0, 2)), ((1, 3, 0, 2),), (1, 3, None, 2), "1302", 1302, None, True,
                      OwnTuple((1, 3, 0, 2)), tree, (-1, 3, 0, 2), (1, 3, 0, 10 ** 89), {1, 3, 0, 2}, ((),) * 4,
                      (1, 3, 0, [2])]:
            self.assertIs(is_rank_order(tree, value), False, value)

    def test_values_of_no_such_kind(self):
        deep = ()
        for _ in range(40):
            deep = (deep,)
        for value in [None, True, 0, "", "x" * 20000, [], [[]], deep, [deep], ((),), (0,), tuple(range(3000)),
                      list(range(3000)), (10 ** 89,), ((),) * 3000, (True,) * 3000]:
            self.assertIs(is_rank_order((), value), False)
            self.assertIs(is_rank_order(((), 0, ()), value), value == (0,))
        self.assertIs(is_rank_order((), ()), True)
        self.assertEqual([rank_orders(()), rank_order_at((), 0), rank_order_index((), ())], [1, (), 0])
        self.assertIs(type(raised(rank_order_at, (), 1)), Refused)

    def test_trees_of_many_keys(self):
        for tree in large_trees():
            many = rank_orders(tree)
            product = 1
            for part in parts_by_top(tree).values():
                product *= len(held_by(part))
            self.assertEqual(repr(many), repr(counted(tree)))
            self.assertEqual(many * product, factorial(len(held_by(tree))))
            self.assertEqual(repr(rank_order_at(tree, 0)), repr(end_order(tree, min)))
            self.assertEqual(repr(rank_order_at(tree, many - 1)), repr(end_order(tree, max)))
            self.assertIs(type(raised(rank_order_at, tree, many)), Refused)
            before = None
            numbers = {0, 1, 2, many // 7, many // 3, many // 2, many - 2, many - 1}
            for number in sorted(number for number in numbers if 0 <= number < many):
                order = rank_order_at(tree, number)
                self.assertEqual(hung_all(order), tree)
                self.assertIs(is_rank_order(tree, order), True)
                self.assertEqual(rank_order_index(tree, order), number)
                self.assertTrue(before is None or before < order)
                before = order

    def test_the_chain_and_the_broadest_tree(self):
        chain = hung_all(range(24))
        self.assertEqual([rank_orders(chain), rank_order_at(chain, 0)], [1, tuple(range(24))])
        self.assertIs(type(raised(rank_order_at, chain, 1)), Refused)
        for size in range(1, 24):
            two = hung_all([size, *range(size), *range(size + 1, 24)])
            self.assertEqual(rank_orders(two), comb(23, size))


if __name__ == "__main__":
    unittest.main()
