"""Views, told looks and lots: point [20] without the fewest looks."""

import unittest

from argument_checks import odd_but
from helpers import OwnInteger, OwnTuple, grown_tree, held_by, parts_by_top, raised, shuffled
from oneshape import errors
from oneshape.plans import all_views, answers, best_plan, fewest_left, lots_left, part_views, unparted
from plan_samples import drawn_told, lots_of, some_views, told_of, viewed_rankings, views_of


def nearly_views(count):
    """Values that are nearly views of count keys."""
    last = count - 1
    found = [
        [(0, 0)], [[0, 0]], ([0, 0],), ((0,),), ((0, 0, 0),), ((),), (0, 0), ((0, count),), ((count, count),),
        ((-1, 0),), ((-1, -1),), ((last, last), (0, count)), ((0, 0), (0, 0)), ((0, last),) * 2, ((0, True),),
        ((True, True),), ((False, 0),), ((0, False),), ((0, None),), ((0, "0"),), ((0, 0.0),), ((0, 0), ()),
        ((0, 0), 0), ((0, 10 ** 89),), OwnTuple(), (OwnTuple((0, 0)),), ((OwnInteger(0), 0),), "", {(0, 0): 1},
    ]
    if count > 1:
        found += [((1, 0),), ((last, 0),), ((1, 1), (0, 0)), ((0, 1), (0, 0)), ((0, 0), (1, 1), (0, 1)),
                  tuple(views_of(count)[::-1]), list(views_of(count)), ((0, 0), (1, 1), (1, 1))]
    return found


def nearly_told(count):
    """Values that are nearly told looks of count keys."""
    good = (0, count - 1, True)
    return [
        [good], (list(good),), good, (good[:2],), (good + (True,),), ((0, 0, 1),), ((0, 0, 0),), ((0, 0, None),),
        ((0, 0, "True"),), ((0, count, True),), ((count, count, False),), ((-1, 0, True),), ((0, True, True),),
        ((False, 0, True),), ((False, False, False),), (good,) * 41, (good,) * 40 + ((0, count, True),), (good, None),
        (good, ()), ((0, 0, 0.0),), ((0, 0, (True,)),), OwnTuple(), (OwnTuple(good),), ((0, OwnInteger(0), True),),
    ] + ([((1, 0, True),), ((count - 1, 0, False),)] if count > 1 else [])


class Kinds(unittest.TestCase):
    def test_views_that_are_nearly_so(self):
        for count in range(1, 9):
            for value in nearly_views(count):
                for call in (lambda: answers(count, 1, value, ()), lambda: unparted(count, 1, value),
                             lambda: best_plan(count, 0, value), lambda: fewest_left(count, 1, value, ())):
                    self.assertIs(type(raised(call)), errors.InvalidViews, value)
            for views in some_views(count, count, 9):
                self.assertEqual(len(answers(count, 0, views, ())), len(views))

    def test_told_looks_that_are_nearly_so(self):
        for count in range(1, 9):
            for value in nearly_told(count):
                for call in (lambda: lots_left(count, 1, value), lambda: fewest_left(count, 1, (), value)):
                    self.assertIs(type(raised(call)), errors.InvalidTold, value)
            good = tuple((view + (at % 2 == 0,)) for at, view in enumerate(views_of(count) * 40))[:40]
            for many in (0, 1, 2, 39, 40):
                self.assertIs(type(lots_left(count, 3, good[:many])), list)

    def test_counts_and_most(self):
        for function in (lambda count: all_views(count), lambda count: lots_left(count, 1, ()),
                         lambda count: unparted(count, 1, ())):
            for count in odd_but() + [0, -1, 9, 24, OwnInteger(3), 2.0]:
                self.assertIs(type(raised(function, count)), errors.InvalidCount, count)
        for most in odd_but() + [-1, 4, 9, OwnInteger(1), 1.0]:
            self.assertIs(type(raised(lots_left, 3, most, ())), errors.InvalidCount, most)
            self.assertIs(type(raised(unparted, 3, most, None)), errors.InvalidCount, most)

    def test_lots(self):
        for count in range(1, 9):
            for most in range(4):
                views = all_views(count)
                lots = lots_of(count, 8)
                for lot in lots:
                    error = raised(answers, count, most, views, lot)
                    self.assertIs(type(error), type(None) if len(lot) <= most else errors.InvalidLot)
                for value in [(count,), (-1,), [], [0], (0, 0), (True,), (False,), (None,), 0, OwnTuple(), (0.0,),
                              (1, 0), (0, count)]:
                    self.assertIs(type(raised(answers, count, most, views, value)), errors.InvalidLot, value)


class Views(unittest.TestCase):
    def test_all_views(self):
        for count in range(1, 9):
            self.assertEqual(repr(all_views(count)), repr(tuple(sorted(views_of(count)))))
            self.assertEqual(len(all_views(count)), count * (count + 1) // 2)

    def test_views_of_parts(self):
        drawn = [shuffled(range(-3, size - 3), seed) for size in range(5, 9) for seed in range(20)]
        for ranking in viewed_rankings() + drawn:
            keys = range(len(ranking))
            stretches = {(held_by(part)[0], held_by(part)[-1]) for part in parts_by_top(grown_tree(ranking, keys)).values()}
            self.assertEqual(repr(part_views(ranking)), repr(tuple(sorted(stretches | {(key, key) for key in keys}))))

    def test_views_of_parts_of_too_few_or_too_many_keys(self):
        for ranking in ((), tuple(range(9)), tuple(range(24))):
            self.assertIs(type(raised(part_views, ranking)), errors.InvalidRanking)
        self.assertEqual(part_views((10 ** 89,)), ((0, 0),))

    def test_answers(self):
        for count in range(1, 6):
            for most in range(4):
                for lot in lots_of(count, most):
                    for views in some_views(count, count, 6):
                        wanted = tuple(told_of(view, lot) for view in views)
                        self.assertEqual(repr(answers(count, most, views, lot)), repr(wanted))
        self.assertEqual(answers(8, 3, ((0, 2), (3, 3), (4, 7)), (3, 7)), (True, False, False))

    def test_lots_left_by_looks_at_each_lot(self):
        for count in range(1, 9):
            for most in range(4):
                for seed in range(25):
                    told = drawn_told(count, 100 * count + seed)
                    wanted = [lot for lot in lots_of(count, most)
                              if all(told_of(look[:2], lot) is look[2] for look in told)]
                    self.assertEqual(repr(lots_left(count, most, told)), repr(wanted))

    def test_looks_that_can_not_be_together(self):
        self.assertEqual(lots_left(3, 3, ((0, 1, True), (0, 1, False))), [])
        self.assertEqual(lots_left(3, 3, ((0, 1, True), (0, 0, False))), [])
        self.assertEqual(lots_left(3, 0, ((0, 2, False),)), [])
        self.assertEqual(lots_left(3, 1, ((0, 0, False), (1, 1, False))), [])
        self.assertEqual(lots_left(3, 2, ((0, 0, False), (1, 1, False)) * 20), [(0, 1)])
        self.assertEqual(lots_left(1, 3, ()), [(), (0,)])

    def test_unparted(self):
        for count in range(1, 7):
            for most in range(4):
                lots = lots_of(count, most)
                for views in some_views(count, 7 * count + most, 12):
                    alike = [(lot, other) for at, lot in enumerate(lots) for other in lots[at + 1:]
                             if all(told_of(view, lot) == told_of(view, other) for view in views)]
                    self.assertEqual(repr(unparted(count, most, views)), repr(alike[0] if alike else None))

    def test_unparted_without_views(self):
        self.assertIsNone(unparted(8, 0, ()))
        self.assertEqual(unparted(8, 1, ()), ((), (0,)))
        self.assertIsNone(unparted(8, 3, all_views(8)))


if __name__ == "__main__":
    unittest.main()
