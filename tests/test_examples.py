"""The examples of the document, as they stand there; each part goes on with the names of those ahead."""

import unittest

from helpers import check_examples
from oneshape import looks, pages, parted, reach, shapes, trees

TREES = """
>>> ranks = (5, 40, 12, 33, 7)
>>> [tree_of(ranks, (0, 2, 3, 4)), way(ranks, tree_of(ranks, (0, 2, 3, 4)), 1), above(ranks, (0, 1, 2, 3), 2), below(ranks, (0, 1, 2, 3), 3)]
[((((), 0, ()), 2, ()), 3, ((), 4, ())), (3, 2, 0), (1, 3), (2,)]
>>> [top_between(ranks, (0, 2, 4), 1, 3), top_between(ranks, (0, 4), 1, 3), least_ranking(ranks), put_in(ranks, ((), 3, ()), 1)]
[2, None, (0, 4, 2, 3, 1), ((), 1, ((), 3, ()))]
>>> [reach(ranks, tree_of(ranks, (0, 2, 3, 4)), 1), taken_out(ranks, tree_of(ranks, (0, 1, 3)), 1), longest_way(ranks, (0, 1, 2, 3, 4)), tree_text(((), 1, ((), 3, ())))]
[(1, 2, 3), (((), 0, ()), 3, ()), 3, '(-,1,(-,3,-))']
>>> tree_told("(-,2,(-,0")
raises InvalidText(8)
>>> tree_told("(-,23,(")
raises InvalidText(6)
"""

PARTED = """
>>> ranks = (5, 40, 12, 33, 7)
>>> first, second = tree_of(ranks, (0, 2, 3)), tree_of(ranks, (1, 3, 4))
>>> [first, second, parted(ranks, second, 3), joined(ranks, ((), 0, ()), second)]
[((((), 0, ()), 2, ()), 3, ()), ((), 1, ((), 3, ((), 4, ()))), (((), 1, ()), True, ((), 4, ())), (((), 0, ()), 1, ((), 3, ((), 4, ())))]
>>> [either_tree(ranks, first, second), common_tree(ranks, first, second), less_tree(ranks, first, second)]
[(((), 0, ()), 1, (((), 2, ()), 3, ((), 4, ()))), ((), 3, ()), (((), 0, ()), 2, ())]
>>> [unlike_tree(ranks, first, second), opened(ranks, first, second), fresh(ranks, first, second)]
[(((), 0, ()), 1, ((), 2, ((), 4, ()))), (1, 3), (1, 2, 3)]
>>> [opened_bounds((0, 2, 3), (1, 3, 4)), opened_bounds((0, 1), (2, 4)), opened_bounds((), (1,)), opened_bounds((1, 2), (1, 2))]
[(2, 5), (1, 3), (0, 0), (2, 2)]
"""

SHAPES = """
>>> shape = (((), 0, ()), 1, (((), 2, ()), 3, ()))
>>> [rank_orders(shape), rank_order_at(shape, 1), rank_order_index(shape, (1, 3, 2, 0)), is_rank_order(shape, (1, 0, 2, 3))]
[3, (1, 3, 0, 2), 2, False]
>>> [all_trees((0, 4)), rank_orders(()), rank_order_at((), 0)]
[[((), 0, ((), 4, ())), (((), 0, ()), 4, ())], 1, ()]
>>> told = (((), 0, ((), 2, ())), (((), 1, ()), 2, ()))
>>> [told_above(told), ring_of(told), orders_told(told), order_told(told, 0), surely_above(told)]
[((0, 2), (2, 1)), None, 1, (0, 2, 1), ((0, 1), (0, 2), (2, 1))]
>>> [told_tree(told, (0, 1)), told_tree(told, (0, 3)), trees_left(told, (0, 3))]
[((), 0, ((), 1, ())), None, [((), 0, ((), 3, ())), (((), 0, ()), 3, ())]]
>>> [ring_of(told + (((), 1, ()), (((), 0, ()), 1, ()))), tells_all(ranks, ((1, 2, 3), (2, 4), (0, 4))), tells_all(ranks, ((0, 1, 2, 3, 4),)), fewest_contents(ranks)]
[(0, 2, 1), True, False, 3]
>>> order_told((((), 0, ((), 1, ())), (((), 0, ()), 1, ())), 0)
raises NoRanking((0, 1))
"""

PAGES = """
>>> levels = (0, 2, 0, 1, 0, 0)
>>> [page_of(levels, (0, 1, 2, 3, 4, 5)), page_of(levels, (0, 2)), height(levels, (2, 3)), page_of(levels, ()), page_of((2,), (0,))]
[(((0,),), 1, ((2,), 3, (4, 5))), (0, 2), 1, (), (((),), 0, ((),))]
>>> page_lists(levels, (0, 1, 2, 3, 4, 5))
[[(0,), (2,), (4, 5)], [((0,),), ((2,), 3, (4, 5))], [(((0,),), 1, ((2,), 3, (4, 5)))]]
>>> [path_to(levels, (0, 1, 2, 3, 4, 5), 4), path_to(levels, (0, 1, 3, 5), 4), path_to(levels, (0, 1), 1), path_to(levels, (0, 2), 1)]
[(2, 2, 0), (2, 2, 0), (1,), (1,)]
>>> [page_put(levels, (0, 2), 1), page_out(levels, (((0,),), 1, ((2,),)), 1), is_page(levels, ((0, 2),)), is_page(levels, ((), 3, ()))]
[(((0,),), 1, ((2,),)), (0, 2), False, True]
>>> page_changes(levels, (0, 2), 1)
[(((0, 2),), ((0,), (2,))), ((), (((0,),), ((2,),))), ((), ((((0,),), 1, ((2,),)),))]
>>> ranking = (2, 5, 1, 4, 0, 3)
>>> [cut(ranking, (0, 1, 2, 3, 4, 5), 2), cut(ranking, (0, 2, 4), 2), cut_changes(ranking, (0, 2, 4), 1, 2)]
[((1, 3), ((0,), (2,), (4, 5))), ((0,), ((), (2, 4))), ([()], [(0,)])]
>>> [is_cut(ranking, 2, ((), ((0, 2, 4),))), is_cut(ranking, 3, ((), ((0, 2, 4),)))]
[False, True]
"""

LOOKS = """
>>> one, other = ((0, 1), (2, 5), (3, 5), (4, 9)), ((0, 1), (1, 2), (2, 5), (3, 5), (4, 8))
>>> [differing(ranks, one, other), look_count(ranks, one, other), parting(ranks, one, other), most_parting(ranks, 1), hardest(ranks, 1), hardest(ranks, 2)]
[(1, 4), 7, (1, 3, 4), 3, (2,), (0, 2)]
>>> look_run(ranks, one, other)
[(-1, 5, 'opened'), (-1, 1, 'same'), (1, 5, 'opened'), (1, 3, 'same'), (3, 5, 'opened'), (3, 4, 'same'), (4, 5, 'same')]
>>> [look_run(ranks, one, ()), look_run(ranks, one, one)]
[[(-1, 5, 'lone')], [(-1, 5, 'same')]]
"""


class Examples(unittest.TestCase):
    def check(self, text, module, names):
        check_examples(self, text, {**names, **vars(module)})

    def test_trees(self):
        self.check(TREES, trees, vars(reach))

    def test_parted(self):
        self.check(PARTED, parted, vars(trees))

    def test_shapes(self):
        self.check(SHAPES, shapes, {"ranks": (5, 40, 12, 33, 7)})

    def test_pages(self):
        self.check(PAGES, pages, {})

    def test_looks(self):
        self.check(LOOKS, looks, {"ranks": (5, 40, 12, 33, 7)})


if __name__ == "__main__":
    unittest.main()
