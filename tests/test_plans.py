"""Plans and witnesses: points [21] and [22], fact E4."""

import unittest
from itertools import combinations

from helpers import OwnInteger, OwnString, OwnTuple, numbers, raised
from oneshape import errors
from oneshape.plans import (
    all_views, best_plan, fewest_looks, fewest_witness, is_plan, is_witness, led_by, part_views, plan_depth,
    some_witness, unparted,
)
from plan_samples import drawn_views, lots_of, some_views, told_of, views_of


def is_look(part):
    return len(part) == 5 and part[0] == "look"


def ends_of(plan, path=()):
    """Each answer of a plan with the looks on the way to it."""
    if not is_look(plan):
        return [(path, plan)]
    low, high = plan[1:3]
    return ends_of(plan[3], path + ((low, high, True),)) + ends_of(plan[4], path + ((low, high, False),))


def walked(plan, lot):
    """The told looks on the way for the lot, and the answer."""
    told = []
    while is_look(plan):
        same = told_of(plan[1:3], lot)
        told.append(plan[1:3] + (same,))
        plan = plan[3] if same else plan[4]
    return tuple(told), plan


def places(plan, path=()):
    """The paths of indexes to all parts of a plan that are looks or answers."""
    found = [path]
    if is_look(plan):
        found += places(plan[3], path + (3,)) + places(plan[4], path + (4,))
    return found


def part_by(plan, path):
    for at in path:
        plan = plan[at]
    return plan


def with_part(plan, path, part):
    if not path:
        return part
    return plan[:path[0]] + (with_part(plan[path[0]], path[1:], part),) + plan[path[0] + 1:]


def is_plan_by_lots(count, most, views, plan):
    """Whether a value of the form of a plan leads each lot to itself."""
    return all(walked(plan, lot)[1] == lot for lot in lots_of(count, most))


def parts_in(value):
    return sum(1 + parts_in(part) for part in value) if type(value) in (tuple, list) else 0


def slow_plan(count, looks):
    """A plan for one key that differs at the most: looks at each key, again and again, so many on the longest way."""
    plan = ()
    for key in range(count - 1, -1, -1):
        plan = ("look", key, key, plan, (key,))
    for _ in range(looks - count):
        plan = ("look", 0, 0, plan, (0,))
    return plan


SETTINGS = [(1, 0), (1, 1), (2, 1), (2, 2), (3, 1), (3, 2), (3, 3), (4, 2), (5, 1), (5, 3)]


class Plans(unittest.TestCase):
    def test_best_plans(self):
        for count in range(1, 9):
            for most in range(4):
                for views in some_views(count, count + 9 * most, 9) + [part_views(tuple(range(count)))]:
                    if unparted(count, most, views) is not None:
                        self.assertIs(type(raised(best_plan, count, most, views)), errors.Refused)
                        continue
                    plan = best_plan(count, most, views)
                    ends = ends_of(plan)
                    self.assertIs(is_plan(count, most, views, plan), True)
                    self.assertTrue(is_plan_by_lots(count, most, views, plan))
                    depth = max(len(path) for path, _ in ends)
                    self.assertEqual(repr(plan_depth(count, most, views, plan)), repr(depth))
                    self.assertEqual(depth, fewest_looks(count, most, views))
                    self.assertLessEqual(parts_in(plan), 3000)
                    self.assertTrue(all(look[:2] in views for path, _ in ends for look in path))

    def test_led_by(self):
        for count, most in SETTINGS + [(8, 3)]:
            views = all_views(count)
            for plan in (best_plan(count, most, views), slow_plan(count, 20)):
                if is_plan(count, most, views, plan):
                    for lot in lots_of(count, most):
                        self.assertEqual(repr(led_by(count, most, views, plan, lot)), repr(walked(plan, lot)[0]))

    def test_parts_exchanged(self):
        for count, most in SETTINGS:
            views, draws = all_views(count), numbers(count)
            plan = best_plan(count, most, views)
            paths = places(plan)
            for path in paths:
                part = part_by(plan, path)
                tries = [part_by(plan, paths[next(draws) % len(paths)]), (), (0,), tuple(range(count)), (count - 1,)]
                if is_look(part):
                    low, high = part[1:3]
                    tries += [part[:3] + (part[4], part[3]), part[:3] + (part[3], part[3]), part[3], part[4]]
                    tries += [("look",) + view + part[3:] for view in views]
                    tries += [("look", low, high, part, part), ("look", low, high, part, (count - 1,))]
                for other in tries:
                    value = with_part(plan, path, other)
                    wanted = is_plan_by_lots(count, most, views, value)
                    self.assertIs(is_plan(count, most, views, value), wanted, value)
                    if not wanted:
                        self.assertIs(type(raised(plan_depth, count, most, views, value)), errors.InvalidPlan)

    def test_parts_of_other_kinds(self):
        for count, most in SETTINGS:
            views = all_views(count)
            plan = best_plan(count, most, views)
            for path in places(plan):
                part = part_by(plan, path)
                tries = [list(part), None, 0, "look", (count,), (-1,), (0, 0), (True,), (None,), ((),), [], OwnTuple(part),
                         (0.0,), ("look",), ("look", 0, 0), ("look", 0, 0, (), (), ()), ("look", 0, 0, [], ())]
                if is_look(part):
                    tries += [("Look",) + part[1:], ("",) + part[1:], (None,) + part[1:], part[:4], part + ((),),
                              ("look", 0, True) + part[3:], ("look", False, 0) + part[3:], ("look", 0, count) + part[3:],
                              ("look", -1, 0) + part[3:], (OwnString("look"),) + part[1:], (["look"],) + part[1:],
                              ("look", OwnInteger(0), 0) + part[3:], ("look", (0, 0)) + part[3:], part[:3] + (None, ())]
                    if count > 1:
                        tries.append(("look", 1, 0) + part[3:])
                for other in tries:
                    self.assertIs(is_plan(count, most, views, with_part(plan, path, other)), False, other)

    def test_a_look_at_no_view(self):
        plan = ("look", 0, 0, ("look", 1, 1, (), (1,)), (0,))
        self.assertIs(is_plan(2, 1, ((0, 0), (1, 1)), plan), True)
        self.assertIs(is_plan(2, 1, ((0, 0), (0, 1)), plan), False)
        self.assertIs(is_plan(2, 1, ((1, 1),), plan), False)
        self.assertIs(is_plan(2, 1, (), plan), False)

    def test_answers_to_which_no_lot_leads(self):
        views = all_views(3)
        far = ("look", 0, 0, ("look", 0, 0, (), (0, 1, 2)), ("look", 0, 0, ("look", 1, 1, (2,), (0, 2)), (0,)))
        plan = ("look", 1, 1, ("look", 2, 2, far, (2,)), (1,))
        self.assertIs(is_plan(3, 1, views, plan), True)
        self.assertEqual(plan_depth(3, 1, views, plan), 5)
        self.assertEqual(fewest_looks(3, 1, views), 2)
        self.assertEqual(max(len(led_by(3, 1, views, plan, lot)) for lot in lots_of(3, 1)), 4)
        for wrong in ((3,), [], None, ("look", 0, 3, (), ()), (1, 0), ("look", 0, 0, ())):
            self.assertIs(is_plan(3, 1, views, with_part(plan, (3, 3, 4, 3, 3), wrong)), False)

    def test_an_answer_alone(self):
        for count in range(1, 9):
            self.assertIs(is_plan(count, 0, (), ()), True)
            self.assertEqual(plan_depth(count, 0, (), ()), 0)
            self.assertEqual(led_by(count, 0, (), (), ()), ())
            self.assertEqual(best_plan(count, 0, all_views(count)), ())
            for value in ((0,), tuple(range(count)), [], None):
                self.assertIs(is_plan(count, 0, (), value), False)
            self.assertIs(is_plan(count, 1, all_views(count), ()), False)

    def test_20_looks_and_21(self):
        for count in range(1, 9):
            views = all_views(count)
            for looks in (count, 19, 20):
                plan = slow_plan(count, looks)
                self.assertIs(is_plan(count, 1, views, plan), True)
                self.assertEqual(plan_depth(count, 1, views, plan), looks)
            for looks in (21, 22, 40):
                self.assertIs(is_plan(count, 1, views, slow_plan(count, looks)), False)
            # A way that no lot goes counts, too.
            late = slow_plan(count, 19)
            for many, wanted in [(1, True), (18, True), (19, False), (20, False)]:
                idle = ()
                for _ in range(many):
                    idle = ("look", 0, 0, idle, ())
                value = ("look", 0, 0, late, ("look", 0, 0, idle, (0,)))
                self.assertIs(is_plan(count, 1, views, value), wanted)

    def test_deep_and_long_values(self):
        deep, deep_list, looks = (), [], ()
        for _ in range(40):
            deep, deep_list, looks = (deep,), [deep_list], ("look", 0, 0, looks, (0,))
        for value in [deep, deep_list, looks, tuple(range(3000)), ("look",) * 3000, "look" * 5000, 10 ** 89, True,
                      ("look", 10 ** 89, 10 ** 89, (), ()), ("look", 0, 0, deep, (0,)), ("look", 0, 0, (), deep_list),
                      ("look", 0, 0, (), tuple(range(2900)))]:
            for count in (1, 3, 8):
                self.assertIs(is_plan(count, 1, all_views(count), value), False)
                self.assertIs(is_witness(count, 1, all_views(count), (0,), value), False)


def is_witness_by_lots(count, most, views, lot, told):
    fitting = [other for other in lots_of(count, most) if all(told_of(look[:2], other) is look[2] for look in told)]
    return len(set(told)) == len(told) and all(look[:2] in views for look in told) and fitting == [lot]


class Witnesses(unittest.TestCase):
    def test_by_all_sets_of_views(self):
        for count, most, many in [(1, 1, 3), (2, 1, 8), (2, 2, 8), (3, 1, 20), (3, 2, 20), (3, 3, 20), (4, 2, 6)]:
            for views in some_views(count, count + most, many):
                for lot in lots_of(count, most):
                    telling = [view + (told_of(view, lot),) for view in views]
                    sizes = [size for size in range(len(views) + 1) for told in combinations(telling, size)
                             if is_witness_by_lots(count, most, views, lot, told)]
                    self.check(count, most, views, lot, min(sizes, default=None))

    def check(self, count, most, views, lot, wanted):
        self.assertEqual(repr(fewest_witness(count, most, views, lot)), repr(wanted))
        if wanted is None:
            self.assertIs(type(raised(some_witness, count, most, views, lot)), errors.Refused)
        else:
            told = some_witness(count, most, views, lot)
            self.assertEqual(len(told), wanted)
            self.assertIs(is_witness(count, most, views, lot, told), True)
            self.assertTrue(is_witness_by_lots(count, most, views, lot, told))

    def test_by_ways_of_plans(self):
        for count in range(1, 9):
            for most in range(4):
                for views in [all_views(count), part_views(tuple(range(count)))] + list(drawn_views(count, most, 4)):
                    if unparted(count, most, views) is None:
                        plan, looks = best_plan(count, most, views), fewest_looks(count, most, views)
                        for lot in lots_of(count, most):
                            once = tuple(dict.fromkeys(led_by(count, most, views, plan, lot)))
                            self.assertIs(is_witness(count, most, views, lot, once), True)
                            least = fewest_witness(count, most, views, lot)
                            self.assertLessEqual(least, min(looks, len(once)))

    def test_none_exactly_where_another_lot_is_alike(self):
        for count in range(1, 6):
            for most in range(4):
                for views in drawn_views(count, 30 + most, 6):
                    lots = lots_of(count, most)
                    rows = [tuple(told_of(view, lot) for view in views) for lot in lots]
                    for lot, row in zip(lots, rows):
                        self.assertIs(fewest_witness(count, most, views, lot) is None, rows.count(row) > 1)

    def test_nearly_witnesses(self):
        for count, most in SETTINGS[1:]:
            views = all_views(count)
            for lot in lots_of(count, most):
                told = some_witness(count, most, views, lot)
                for at, look in enumerate(told):
                    low, high, same = look
                    tries = [told[:at] + told[at + 1:], told[:at] + ((low, high, not same),) + told[at + 1:],
                             told + (look,), (look,) + told, told[::-1], told + ((low, high, not same),)]
                    tries += [told[:at] + (view + (same,),) + told[at + 1:] for view in views]
                    tries += [told + (view + (told_of(view, lot),),) for view in views]
                    for value in tries:
                        wanted = is_witness_by_lots(count, most, views, lot, value)
                        self.assertIs(is_witness(count, most, views, lot, value), wanted, value)
                    self.assertIs(is_witness(count, most, tuple(view for view in views if view != (low, high)), lot, told),
                                  False)
                    for wrong in [list(look), (low, high), (low, high, int(same)), (low, high, same, same), None, (),
                                  (low, count, same), (-1, high, same), OwnTuple(look), (low, OwnInteger(high), same)]:
                        self.assertIs(is_witness(count, most, views, lot, told[:at] + (wrong,) + told[at + 1:]), False)
                for value in (list(told), None, OwnTuple(told), "", 0, (told,)):
                    self.assertIs(is_witness(count, most, views, lot, value), False)

    def test_the_only_lot(self):
        for views in ((), all_views(4)):
            self.assertEqual([fewest_witness(4, 0, views, ()), some_witness(4, 0, views, ())], [0, ()])
            self.assertIs(is_witness(4, 0, views, (), ()), True)
            self.assertIs(is_witness(4, 0, views, (), []), False)
        whole = tuple(view + (told_of(view, (2, 4)),) for view in views_of(8))
        self.assertIs(is_witness(8, 3, all_views(8), (2, 4), whole), True)
        self.assertIs(is_witness(8, 3, all_views(8), (2, 4), whole[:-1] + (whole[0],)), False)


if __name__ == "__main__":
    unittest.main()
