"""The fewest looks: point [20] from fewest_left on, and facts E1, E2, E3, E5."""

import time
import unittest

from helpers import raised, shuffled
from oneshape.errors import Refused
from oneshape.plans import (
    all_views, best_look, best_plan, fewest_left, fewest_looks, lots_left, part_views, plan_depth, unparted,
)
from plan_samples import (
    all_choices_of_views, doublings, drawn_told, drawn_views, least_by_search, lots_of, some_views, told_of,
    viewed_rankings, views_of,
)


class Fewest(unittest.TestCase):
    def test_fewest_looks_by_search(self):
        for count in range(1, 4):
            for most in range(4):
                for views in all_choices_of_views(count):
                    wanted = least_by_search(views, lots_of(count, most))
                    self.assertEqual(repr(fewest_looks(count, most, views)), repr(wanted))
        for count, most, many in [(4, 1, 60), (4, 2, 40), (4, 3, 30), (5, 1, 30), (5, 2, 12), (6, 1, 20), (8, 1, 6)]:
            for views in some_views(count, 10 * count + most, many):
                wanted = least_by_search(views, lots_of(count, most))
                self.assertEqual(repr(fewest_looks(count, most, views)), repr(wanted), (most, views))

    def test_fewest_left_and_the_best_look_by_search(self):
        for count, most, many in [(1, 1, 4), (2, 2, 9), (3, 1, 40), (3, 3, 40), (4, 1, 40), (4, 2, 40), (5, 2, 8)]:
            for at, views in enumerate(list(drawn_views(count, count + most, many)) + [all_views(count), ()]):
                told = drawn_told(count, 1000 * count + 10 * at + most)
                lots = lots_left(count, most, told)
                wanted = least_by_search(views, lots)
                self.assertEqual(repr(fewest_left(count, most, views, told)), repr(wanted))
                self.assertEqual(repr(best_look(count, most, views, told)), repr(self.first_best(views, lots, wanted)))

    def first_best(self, views, lots, looks):
        if not looks:
            return None
        for view in views:
            sides = [[lot for lot in lots if told_of(view, lot) is same] for same in (True, False)]
            if all(least_by_search(views, side) <= looks - 1 for side in sides):
                return view

    def test_told_looks_need_not_be_among_the_views(self):
        self.assertEqual(fewest_left(3, 1, ((0, 0), (1, 1)), ((0, 2, False),)), 2)
        self.assertEqual(fewest_left(3, 1, ((0, 0),), ((0, 1, False),)), 1)
        self.assertEqual(best_look(3, 1, ((0, 0), (1, 1)), ((0, 1, False),)), (0, 0))
        self.assertEqual(best_look(3, 1, ((1, 1), (2, 2)), ((0, 1, False),)), (1, 1))

    def test_one_lot_or_none_is_left(self):
        for views in ((), ((0, 0),), all_views(3)):
            for told in (((0, 2, True),), ((0, 2, True), (0, 0, False)), ((1, 1, False),), ((1, 1, False),) * 40):
                self.assertEqual(repr(fewest_left(3, 1, views, told)), "0")
                self.assertIsNone(best_look(3, 1, views, told))
            self.assertEqual(fewest_looks(3, 0, views), 0)

    def test_without_views(self):
        for count in range(1, 9):
            for most in range(1, 4):
                self.assertIsNone(fewest_looks(count, most, ()))
                self.assertIsNone(best_look(count, most, (), ()))

    def test_either_a_plan_or_two_lots_that_no_view_parts(self):
        for count in range(1, 9):
            for most in range(4):
                for views in some_views(count, 3 * count + most, 12):
                    looks = fewest_looks(count, most, views)
                    self.assertIs(looks is None, unparted(count, most, views) is not None)
                    if looks is None:
                        self.assertIs(type(raised(best_plan, count, most, views)), Refused)
                    else:
                        self.assertGreaterEqual(looks, doublings(len(lots_of(count, most))))
                        self.assertEqual(plan_depth(count, most, views, best_plan(count, most, views)), looks)

    def test_all_views(self):
        for count in range(1, 9):
            self.assertEqual(fewest_looks(count, 1, all_views(count)), doublings(count + 1))
            for most in range(4):
                looks = fewest_looks(count, most, all_views(count))
                if most >= count:
                    self.assertEqual(looks, count)
                self.assertEqual(looks, fewest_left(count, most, all_views(count), ()))
        self.assertEqual([fewest_looks(8, most, all_views(8)) for most in range(4)], [0, 4, 6, 8])

    def test_never_more_looks(self):
        for count in range(2, 9):
            for most in range(1, 4):
                looks = fewest_looks(count, most, all_views(count))
                self.assertLessEqual(fewest_looks(count - 1, most, all_views(count - 1)), looks)
                self.assertLessEqual(fewest_looks(count, most - 1, all_views(count)), looks)
        for count in range(1, 6):
            for most in range(4):
                for views in drawn_views(count, 50 + count, 12):
                    looks = fewest_looks(count, most, views)
                    for more in set(views_of(count)) - set(views):
                        further = fewest_looks(count, most, tuple(sorted(views + (more,))))
                        self.assertTrue(looks is None or further <= looks)

    def test_parts_of_trees(self):
        drawn = [shuffled(range(size), seed) for size in range(5, 9) for seed in range(8)]
        for ranking in viewed_rankings() + drawn:
            for most in range(4):
                views = part_views(ranking)
                self.assertIsNone(unparted(len(ranking), most, views))
                self.assertGreaterEqual(fewest_looks(len(ranking), most, views),
                                        fewest_looks(len(ranking), most, all_views(len(ranking))))


class Times(unittest.TestCase):
    def test_the_slowest_calls(self):
        longest = 0
        for views in [all_views(8)] + [part_views(shuffled(range(8), seed)) for seed in range(5)] + [
                tuple(sorted(set(views) | {(key, key) for key in range(8)})) for views in drawn_views(8, 9, 30)]:
            for function, arguments in [(fewest_looks, ()), (best_plan, ()), (best_look, ((),)), (unparted, ()),
                                        (fewest_left, (((0, 7, False),),))]:
                begun = time.perf_counter()
                function(8, 3, views, *arguments)
                longest = max(longest, time.perf_counter() - begun)
        self.assertLess(longest, 2)


if __name__ == "__main__":
    unittest.main()
