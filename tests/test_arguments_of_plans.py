"""The functions of plans.py and page_looks.py with wrong arguments, alone and together."""

import unittest

from argument_checks import ODD, ArgumentChecks, odd_but
from helpers import raised
from oneshape import errors, page_looks, plans

VIEWS = ((0, 0), (0, 1), (1, 2), (2, 2))
PLAN = ("look", 0, 0,
        ("look", 2, 2, ("look", 0, 1, (), (1,)), ("look", 0, 1, (2,), (1, 2))),
        ("look", 2, 2, ("look", 1, 2, (0,), (0, 1)), (0, 2)))
RANKS = (5, 40, 12, 33, 7)
COUNTS = ODD + [0, -1, 9, 24, 2.0, (2,), "2", [2]]


class PlansArguments(ArgumentChecks, unittest.TestCase):
    functions = {
        plans.all_views: "count", plans.part_views: "ranking", plans.answers: "count most views lot",
        plans.lots_left: "count most told", plans.unparted: "count most views",
        plans.fewest_left: "count most views told", plans.fewest_looks: "count most views",
        plans.best_look: "count most views told", plans.is_plan: "count most views value",
        plans.plan_depth: "count most views plan", plans.best_plan: "count most views",
        plans.led_by: "count most views plan lot", plans.is_witness: "count most views lot value",
        plans.fewest_witness: "count most views lot", plans.some_witness: "count most views lot",
    }
    good = {"count": 3, "most": 2, "views": VIEWS, "told": ((0, 1, False), (1, 1, True)), "plan": PLAN, "lot": (0, 2),
            "value": PLAN, "ranking": RANKS}
    wrong = {
        "ranking": (errors.InvalidRanking, ODD + [(), 0, (1, 1), tuple(range(9)), tuple(range(24)), tuple(range(25)),
                                                  list(RANKS)]),
        "count": (errors.InvalidCount, COUNTS),
        "most": (errors.InvalidCount, odd_but() + [-1, 4, 9, 2.0, (2,), "2", [2]]),
        "views": (errors.InvalidViews, ODD + [
            [(0, 0)], ([0, 0],), ((0, 0), (0, 0)), ((1, 1), (0, 0)), ((0, 1), (0, 0)), ((1, 0),), ((0, 3),), ((3, 3),),
            ((-1, 0),), ((0, True),), ((False, 0),), ((0, 0, 0),), ((0,),), (0, 0), ((0, 0), None), ((0, 1.0),), 3]),
        "told": (errors.InvalidTold, ODD + [
            [(0, 0, True)], ([0, 0, True],), ((0, 0),), ((0, 0, 1),), ((0, 0, 0),), ((0, 0, None),), ((1, 0, True),),
            ((0, 3, True),), ((-1, 0, True),), ((0, True, True),), ((False, 0, True),), ((0, 0, True, True),),
            ((0, 0, True),) * 41, (0, 0, True), ((0, 0, "True"),), 3]),
        "plan": (errors.InvalidPlan, ODD + [
            (), (0, 1), list(PLAN), PLAN[:4], PLAN + ((),), ("see",) + PLAN[1:], ("look", 0, 2) + PLAN[3:],
            ("look", 0, False) + PLAN[3:], PLAN[:3] + (PLAN[4], PLAN[3]), (PLAN,), 3]),
        "lot": (errors.InvalidLot, ODD + [(3,), (0, 1, 2), (1, 0), (0, 0), [0], (0, True), (-1,), (0, 3), 0, "a"]),
    }
    own_errors = [
        (plans.best_plan, (3, 2, ((0, 2),)), errors.Refused("")), (plans.best_plan, (3, 1, ()), errors.Refused("")),
        (plans.some_witness, (3, 2, ((0, 2),), (0,)), errors.Refused("")),
        (plans.some_witness, (3, 1, (), ()), errors.Refused("")),
    ]
    with_lists = {"lots_left"}
    questions = 2

    def test_the_good_plan_has_the_least_depth(self):
        self.assertEqual(plans.plan_depth(3, 2, VIEWS, PLAN), plans.fewest_looks(3, 2, VIEWS))

    def test_bounds_that_are_still_good(self):
        for count in range(1, 9):
            views = plans.all_views(count)
            for most in range(4):
                self.assertEqual(plans.answers(count, most, views, ()), (True,) * len(views))
                self.assertEqual(plans.lots_left(count, most, ((0, count - 1, True),) * 40), [()])

    def test_no_list_told_has_a_part_in_later_calls(self):
        plans.lots_left(3, 2, ()).clear()
        self.assertEqual(len(plans.lots_left(3, 2, ())), 7)


LEVELS = (0, 2, 0, 1, 0)
# Behind these looks further ones are still to come.
WALK = [(0, 4, False), (0, 0, True), (1, 1, True)]
STORES = ODD + [0, ((5, 1),), ((-1, 1),), ((0, 1), (0, 1)), ((1, 1), (0, 1)), ((0, True),), [(0, 1)], ((0, 10 ** 9),)]


class PageLooksArguments(ArgumentChecks, unittest.TestCase):
    functions = {
        page_looks.page_stretches: "levels", page_looks.inner_stretches: "levels page_stretch",
        page_looks.page_differing: "levels store other_store", page_looks.page_walk: "levels store other_store",
        page_looks.walk_of: "levels lot", page_looks.is_page_walk: "levels value", page_looks.walk_lot: "levels walk",
        page_looks.look_counts: "levels", page_looks.most_looks: "levels count", page_looks.most_lot: "levels count",
        page_looks.worst_stores: "levels count", page_looks.least_looks: "number", page_looks.best_levels: "number",
    }
    good = {"levels": LEVELS, "page_stretch": (2, 4), "store": ((0, 5), (2, -1)), "other_store": ((0, 5), (3, 0)),
            "lot": (0, 3), "count": 2, "number": 7, "walk": [(0, 4, True)], "value": WALK}
    wrong = {
        "levels": (errors.InvalidLevels, ODD + [0, (5,), (0, -1), (0, True), (0,) * 25, list(LEVELS), (0, 2.0), 3]),
        "page_stretch": (errors.InvalidStretch, ODD + [(), (0, 1), (2, 3), (5, 5), (4, 2), [2, 4], (2, 4, 0), (2,),
                                                       (False, 0), (0, False), (True, True), (2.0, 4), 2]),
        "store": (errors.InvalidStore, STORES),
        "other_store": (errors.InvalidStore, STORES),
        "lot": (errors.InvalidLot, ODD + [(5,), (1, 0), (0, 0), [0], (0, True), (-1,), 0, "a"]),
        "walk": (errors.InvalidWalk, ODD + [(), ((0, 4, True),), [(0, 4, 1)], [[0, 4, True]], [(0, 4, False)],
                                            [(0, 4, True), (0, 0, True)], [(False, 4, True)], [(0, 3, True)],
                                            [(0, 4, True)] * 2, WALK, WALK[1:], WALK[::-1], 3]),
        "count": (errors.InvalidCount, odd_but(10 ** 89) + [0, -1, 2.0, (2,), "2"]),
        "number": (errors.InvalidCount, odd_but(10 ** 89) + [-1, -7, 2.0, (2,), "2"]),
    }
    own_errors = [
        (page_looks.least_looks, (25,), errors.TooMany(24)), (page_looks.best_levels, (25,), errors.TooMany(24)),
        (page_looks.least_looks, (10 ** 89,), errors.TooMany(24)), (page_looks.best_levels, (99,), errors.TooMany(24)),
    ]
    with_lists = {"page_stretches", "inner_stretches", "page_walk", "walk_of"}
    questions = 1

    def test_keys_are_those_of_the_levels(self):
        for levels in ((), (0,), (0, 2, 0)):
            key = len(levels)
            self.assertIs(type(raised(page_looks.walk_of, levels, (key,))), errors.InvalidLot)
            self.assertIs(type(raised(page_looks.inner_stretches, levels, (key, key))), errors.InvalidStretch)
            for function in (page_looks.page_differing, page_looks.page_walk):
                self.assertIs(type(raised(function, levels, ((key, 1),), ())), errors.InvalidStore)
                self.assertIs(type(raised(function, levels, (), ((key, 1),))), errors.InvalidStore)

    def test_walks_of_no_keys(self):
        self.assertEqual([page_looks.walk_of((), ()), page_looks.walk_lot((), [])], [[], ()])
        self.assertIs(page_looks.is_page_walk((), []), True)
        self.assertIs(page_looks.is_page_walk((), ()), False)
        self.assertIs(page_looks.is_page_walk((0,), []), False)

    def test_a_walk_that_is_passed_is_no_part_of_what_is_told(self):
        walk = [(0, 4, True)]
        self.assertEqual(page_looks.walk_lot(LEVELS, walk), ())
        self.assertEqual(walk, [(0, 4, True)])


if __name__ == "__main__":
    unittest.main()
