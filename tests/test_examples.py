"""The examples of the document, as they stand there; each part goes on with the names of those ahead."""

import unittest

from helpers import check_examples
from oneshape import (
    ancestors, console, edition_trees, editions, live, looks, page_looks, pages, paper_texts, parted, plans, reach, shapes,
    trees,
)

TREES = """
>>> ranks = (5, 40, 12, 33, 7)
>>> [tree_of(ranks, (0, 2, 3, 4)), way(ranks, tree_of(ranks, (0, 2, 3, 4)), 1), above(ranks, (0, 1, 2, 3), 2), below(ranks, (0, 1, 2, 3), 3)]
[((((), 0, ()), 2, ()), 3, ((), 4, ())), (3, 2, 0), (1, 3), (2,)]
>>> [top_between(ranks, (0, 2, 4), 1, 3), top_between(ranks, (0, 4), 1, 3), least_ranking(ranks), put_in(ranks, ((), 3, ()), 1)]
[2, None, (0, 4, 2, 3, 1), ((), 1, ((), 3, ()))]
>>> [reach(ranks, tree_of(ranks, (0, 2, 3, 4)), 1), taken_out(ranks, tree_of(ranks, (0, 1, 3)), 1), longest_way(ranks, (0, 1, 2, 3, 4)), tree_text(((), 1, ((), 3, ())))]
[(1, 2, 3), (((), 0, ()), 3, ()), 3, '(-,1,(-,3,-))']
>>> tree_told("(-,2,(-,0")
raises InvalidText(8)
>>> tree_told("(-,23,(")
raises InvalidText(6)
"""

PARTED = """
>>> ranks = (5, 40, 12, 33, 7)
>>> first, second = tree_of(ranks, (0, 2, 3)), tree_of(ranks, (1, 3, 4))
>>> [first, second, parted(ranks, second, 3), joined(ranks, ((), 0, ()), second)]
[((((), 0, ()), 2, ()), 3, ()), ((), 1, ((), 3, ((), 4, ()))), (((), 1, ()), True, ((), 4, ())), (((), 0, ()), 1, ((), 3, ((), 4, ())))]
>>> [either_tree(ranks, first, second), common_tree(ranks, first, second), less_tree(ranks, first, second)]
[(((), 0, ()), 1, (((), 2, ()), 3, ((), 4, ()))), ((), 3, ()), (((), 0, ()), 2, ())]
>>> [unlike_tree(ranks, first, second), opened(ranks, first, second), fresh(ranks, first, second)]
[(((), 0, ()), 1, ((), 2, ((), 4, ()))), (1, 3), (1, 2, 3)]
>>> [opened_bounds((0, 2, 3), (1, 3, 4)), opened_bounds((0, 1), (2, 4)), opened_bounds((), (1,)), opened_bounds((1, 2), (1, 2))]
[(2, 5), (1, 3), (0, 0), (2, 2)]
"""

SHAPES = """
>>> shape = (((), 0, ()), 1, (((), 2, ()), 3, ()))
>>> [rank_orders(shape), rank_order_at(shape, 1), rank_order_index(shape, (1, 3, 2, 0)), is_rank_order(shape, (1, 0, 2, 3))]
[3, (1, 3, 0, 2), 2, False]
>>> [all_trees((0, 4)), rank_orders(()), rank_order_at((), 0)]
[[((), 0, ((), 4, ())), (((), 0, ()), 4, ())], 1, ()]
>>> told = (((), 0, ((), 2, ())), (((), 1, ()), 2, ()))
>>> [told_above(told), ring_of(told), orders_told(told), order_told(told, 0), surely_above(told)]
[((0, 2), (2, 1)), None, 1, (0, 2, 1), ((0, 1), (0, 2), (2, 1))]
>>> [told_tree(told, (0, 1)), told_tree(told, (0, 3)), trees_left(told, (0, 3))]
[((), 0, ((), 1, ())), None, [((), 0, ((), 3, ())), (((), 0, ()), 3, ())]]
>>> [ring_of(told + (((), 1, ()), (((), 0, ()), 1, ()))), tells_all(ranks, ((1, 2, 3), (2, 4), (0, 4))), tells_all(ranks, ((0, 1, 2, 3, 4),)), fewest_contents(ranks)]
[(0, 2, 1), True, False, 3]
>>> order_told((((), 0, ((), 1, ())), (((), 0, ()), 1, ())), 0)
raises NoRanking((0, 1))
"""

PAGES = """
>>> levels = (0, 2, 0, 1, 0, 0)
>>> [page_of(levels, (0, 1, 2, 3, 4, 5)), page_of(levels, (0, 2)), height(levels, (2, 3)), page_of(levels, ()), page_of((2,), (0,))]
[(((0,),), 1, ((2,), 3, (4, 5))), (0, 2), 1, (), (((),), 0, ((),))]
>>> page_lists(levels, (0, 1, 2, 3, 4, 5))
[[(0,), (2,), (4, 5)], [((0,),), ((2,), 3, (4, 5))], [(((0,),), 1, ((2,), 3, (4, 5)))]]
>>> [path_to(levels, (0, 1, 2, 3, 4, 5), 4), path_to(levels, (0, 1, 3, 5), 4), path_to(levels, (0, 1), 1), path_to(levels, (0, 2), 1)]
[(2, 2, 0), (2, 2, 0), (1,), (1,)]
>>> [page_put(levels, (0, 2), 1), page_out(levels, (((0,),), 1, ((2,),)), 1), is_page(levels, ((0, 2),)), is_page(levels, ((), 3, ()))]
[(((0,),), 1, ((2,),)), (0, 2), False, True]
>>> page_changes(levels, (0, 2), 1)
[(((0, 2),), ((0,), (2,))), ((), (((0,),), ((2,),))), ((), ((((0,),), 1, ((2,),)),))]
>>> ranking = (2, 5, 1, 4, 0, 3)
>>> [cut(ranking, (0, 1, 2, 3, 4, 5), 2), cut(ranking, (0, 2, 4), 2), cut_changes(ranking, (0, 2, 4), 1, 2)]
[((1, 3), ((0,), (2,), (4, 5))), ((0,), ((), (2, 4))), ([()], [(0,)])]
>>> [is_cut(ranking, 2, ((), ((0, 2, 4),))), is_cut(ranking, 3, ((), ((0, 2, 4),)))]
[False, True]
"""

LOOKS = """
>>> one, other = ((0, 1), (2, 5), (3, 5), (4, 9)), ((0, 1), (1, 2), (2, 5), (3, 5), (4, 8))
>>> [differing(ranks, one, other), look_count(ranks, one, other), parting(ranks, one, other), most_parting(ranks, 1), hardest(ranks, 1), hardest(ranks, 2)]
[(1, 4), 7, (1, 3, 4), 3, (2,), (0, 2)]
>>> look_run(ranks, one, other)
[(-1, 5, 'opened'), (-1, 1, 'same'), (1, 5, 'opened'), (1, 3, 'same'), (3, 5, 'opened'), (3, 4, 'same'), (4, 5, 'same')]
>>> [look_run(ranks, one, ()), look_run(ranks, one, one)]
[[(-1, 5, 'lone')], [(-1, 5, 'same')]]
"""

PLANS = """
>>> [part_views(ranks), fewest_looks(4, 1, all_views(4)), fewest_looks(4, 2, all_views(4)), fewest_looks(5, 1, part_views(ranks)), unparted(2, 2, ((0, 1),)), fewest_looks(2, 1, ((0, 1),))]
[((0, 0), (0, 4), (1, 1), (2, 2), (2, 4), (3, 3), (4, 4)), 3, 4, 3, ((0,), (1,)), None]
>>> [lots_left(3, 1, ((0, 1, False),)), fewest_left(3, 1, all_views(3), ((0, 1, False),)), best_look(3, 1, all_views(3), ((0, 1, False),)), answers(3, 2, ((0, 0), (1, 2)), (2,))]
[[(0,), (1,)], 1, (0, 0), (True, False)]
>>> plan = ("look", 0, 0, ("look", 1, 1, (), (1,)), (0,))
>>> [is_plan(2, 1, all_views(2), plan), is_plan(2, 2, all_views(2), plan), plan_depth(2, 1, all_views(2), plan), led_by(2, 1, all_views(2), plan, (1,))]
[True, False, 2, ((0, 0, True), (1, 1, False))]
>>> [fewest_witness(4, 3, all_views(4), ()), fewest_witness(4, 2, all_views(4), (0, 2)), is_witness(2, 1, all_views(2), (0,), ((0, 0, False),))]
[1, 2, True]
"""

PAGE_LOOKS = """
>>> steps = (0, 1, 0, 0, 2, 0)
>>> [page_stretches(steps), inner_stretches(steps, (0, 5)), inner_stretches(steps, (0, 3))]
[[(0, 0), (0, 3), (0, 5), (1, 1), (2, 2), (2, 3), (3, 3), (4, 4), (5, 5)], [(0, 3), (4, 4), (5, 5)], [(0, 0), (1, 1), (2, 3)]]
>>> [page_differing(steps, ((0, 5), (2, 1)), ((0, 5), (2, 2), (4, 0))), walk_of(steps, ()), walk_of(steps, (5,))]
[(2, 4), [(0, 5, True)], [(0, 5, False), (0, 3, True), (4, 4, True)]]
>>> walk_of(steps, (3, 5))
[(0, 5, False), (0, 3, False), (0, 0, True), (1, 1, True), (2, 2, True), (4, 4, True), (5, 5, False)]
>>> [look_counts(steps), most_looks(steps, 1), most_lot(steps, 1), most_looks(steps, 2), most_lot(steps, 2)]
[(0, 1, 0, 1, 2, 0, 0, 16, 20, 24), 8, (2,), 9, (0, 2)]
>>> [least_looks(6), most_looks((0, 0, 1, 0, 0, 0), 1), least_looks(24), most_looks(best_levels(24), 1)]
[6, 6, 11, 11]
>>> [walk_lot(steps, [(0, 5, False), (0, 3, True), (4, 4, True)]), is_page_walk(steps, [(0, 5, False), (0, 3, True)]), most_looks((), 1), look_counts(())]
[(5,), False, 0, (1,)]
"""

EDITIONS = """
>>> base, one = ((0, 1), (1, 1), (2, 5), (4, 7)), ((0, 1), (1, 2), (2, 5), (3, 9))
>>> other, late = ((0, 3), (1, 1), (2, 5), (4, 8)), ((0, 3), (1, 1), (2, 5), (4, 7))
>>> [fate(base, one, other, 0), fate(base, one, other, 1), fate(base, one, other, 2), fate(base, one, other, 3), fate(base, one, other, 4), fate(base, one, one, 1)]
['other', 'one', 'kept', 'one', 'clash', 'alike']
>>> [clash_keys(base, one, other), settled(base, one, other, (8,)), settled(base, one, other, (None,))]
[(4,), ((0, 3), (1, 2), (2, 5), (3, 9), (4, 8)), ((0, 3), (1, 2), (2, 5), (3, 9))]
>>> [put_as_one(base, one, late), put_all(base, (late, one, late, base)), opened_keys((5, 40, 12, 33, 7), base, one, other)]
[((0, 3), (1, 2), (2, 5), (3, 9)), ((0, 3), (1, 2), (2, 5), (3, 9)), (1, 3, 4)]
>>> [least_openings(base, one, other), least_openings(base, one, late), fewest_entries(base, one, other), fewest_entries(base, one, late)]
[2, 1, 4, 2]
>>> [is_edition_paper(base, one, late, [(0, 0, "other"), (1, 23, "one")]), paper_store(base, one, late, [(0, 0, "other"), (1, 23, "one")])]
[True, ((0, 3), (1, 2), (2, 5), (3, 9))]
>>> put_as_one(base, one, other)
raises Clash((4,))
"""

ANCESTORS = """
>>> late_one = ((0, 3), (1, 2), (2, 5), (3, 9))
>>> row = (((), base), ((0,), one), ((0,), late), ((1, 2), late_one))
>>> [elders(row, 3), nearest(row, 1, 2), nearest(row, 1, 3), base_of(row, 2, 3), sequences(row), tellers(row, 3, 0), tellers(row, 3, 2), joined_store(row, 1, 2)]
[(0, 1, 2, 3), (0,), (1,), 2, 2, (2,), (0,), ((0, 3), (1, 2), (2, 5), (3, 9))]
>>> [grown(row[:3], 1, 2) == row, grown(row, 0, 3)[4]]
[True, ((0, 3), ((0, 3), (1, 2), (2, 5), (3, 9)))]
>>> base_of(row + (((1, 2), one),), 3, 4)
raises NotOne((1, 2))
"""

LIVE = """
>>> live = Live((5, 40, 12, 33, 7), ((1, 7), (3, 0)))
>>> [live.put(2, 5), live.put(1, 8), live.take(3), live.store, live.tree(), live.way(4), live.height(), live.changed()]
[3, 1, 0, ((1, 8), (2, 5)), ((), 1, ((), 2, ())), (1, 2), 2, (1, 2, 3)]
>>> [live.take_in(((0, 9), (1, 7), (2, 5), (3, 0))), live.would(("cut", 0, 1)), live.undo(), live.undo(), live.moments()]
[(0,), (((2, 5),), 1), ('take_in', ((0, 9), (1, 7), (2, 5), (3, 0))), ('take', 3), [(0,), (1,), (2,)]]
>>> live.take_in(((1, 9), (3, 0)))
raises Clash((1,))
>>> LowLive((5, 40, 12, 33, 7), ((1, 0), (3, 0)), 2).put(2, 0)
raises TooHigh((2,))
"""

PAPER_TEXTS = """
>>> [ranking_text((5, 40, 12, 33, 7)), ranking_told("bdcea"), store_text(((1, 7), (3, -2))), store_told("a0.c15"), store_told("")]
['bdcea', (0, 4, 2, 3, 1), 'b7.d-2', ((0, 0), (2, 15)), ()]
>>> [paper_text(("way", (0, 4, 2, 3, 1), (0, 1, 2), 2, (1, 2))), paper_told("d;a0.c15;a0;c"), paper_told("c;a0;a1;;a")]
['w;bdcea;abc;c;bc', ('differ', ((0, 0), (2, 15)), ((0, 0),), (2,)), ('clash', ((0, 0),), ((0, 1),), (), (0,))]
>>> paper_told("w;ba;ab;b;a")
raises NotShown(2)
>>> paper_told("c;;;;")
raises InvalidText(5)
>>> store_told("b1.a2")
raises InvalidText(3)
>>> ranking_told("ac")
raises InvalidText(2)
"""

CONSOLE = """
>>> console = Console()
>>> console.execute("run open a bdcea; put b 7; put d -2; put c 5; tree; way e; take d; height; in a9; show; paper; moments")
'ok; 1; 2; 3; (-,1,((-,2,-),3,-)); bd; -2; 2; a; a9.b7.c5; d;;a9.b7.c5;abc; 0 1 2 3 4 5'
>>> [console.execute("undo"), console.execute("cut a b"), console.execute("changed"), console.execute("journal"), console.execute("where")]
['in a9', '1', 'c', 'open a bdcea; put b 7; put d -2; put c 5; take d; cut a b', '1 5 0']
"""


class Examples(unittest.TestCase):
    def check(self, text, module, names):
        check_examples(self, text, {**names, **vars(module)})

    def test_trees(self):
        self.check(TREES, trees, vars(reach))

    def test_parted(self):
        self.check(PARTED, parted, vars(trees))

    def test_shapes(self):
        self.check(SHAPES, shapes, {"ranks": (5, 40, 12, 33, 7)})

    def test_pages(self):
        self.check(PAGES, pages, {})

    def test_looks(self):
        self.check(LOOKS, looks, {"ranks": (5, 40, 12, 33, 7)})

    def test_plans(self):
        self.check(PLANS, plans, {"ranks": (5, 40, 12, 33, 7)})

    def test_page_looks(self):
        self.check(PAGE_LOOKS, page_looks, {})

    def test_editions_and_ancestors(self):
        # The stores of the first part have their names in the second one, too.
        self.check(EDITIONS + ANCESTORS, editions, {**vars(edition_trees), **vars(ancestors)})

    def test_live(self):
        self.check(LIVE, live, {})

    def test_paper_texts(self):
        self.check(PAPER_TEXTS, paper_texts, {})

    def test_console(self):
        self.check(CONSOLE, console, {})


if __name__ == "__main__":
    unittest.main()
