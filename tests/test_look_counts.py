"""The numbers of looks of page walks: point [25], facts F3, F4, F5 and F6."""

import time
import unittest
from fractions import Fraction
from functools import lru_cache
from itertools import combinations, product

from helpers import lots, raised
from oneshape.errors import InvalidCount, TooMany
from oneshape.page_looks import (
    best_levels, least_looks, look_counts, most_looks, most_lot, page_differing, page_walk, walk_of, worst_stores,
)
from test_page_stretches import drawn_levels, small_levels, walk_by_words


def counted(levels):
    """How many lots have walks of so many looks, by the walks of all lots."""
    looks = [len(walk_by_words(levels, lot)) for lot in lots(len(levels))]
    return tuple(looks.count(many) for many in range(max(looks) + 1))


def few_keys():
    return small_levels(4) + [levels for count in (5, 6, 7, 8) for levels in drawn_levels(count, 9 * count, 9)]


def many_keys():
    return [levels for count in (14, 19, 24) for levels in drawn_levels(count, 3 * count, 10)]


@lru_cache(None)
def least_behind(count, level):
    """The fewest looks behind the opening of a stretch of so many keys up to this level, for one key that differs.

    By all ways to choose the inner stretches: keys of this level, and stretches of lesser ones between.
    """
    if count == 1:
        return 0
    if level == 0:
        return count
    return min([least_behind(count, level - 1)] + [
        looks for parts in range(2, count + 1)
        if (looks := rest_of_parts(count, parts, parts, level, False)) is not None])


# Each of the inner stretches but the last one costs as many looks as there are inner ones, and
# those behind it; the last one costs one less. Of two neighbours one is a key of the level.
@lru_cache(None)
def rest_of_parts(count, parts, left, level, key_must_come):
    """The fewest looks if so many inner stretches of so many keys in all are still to come; None if none fit."""
    if left == 0:
        return 0 if count == 0 else None
    found = []
    cost = parts - 1 if left == 1 else parts
    sizes = [(1, True)] + ([] if key_must_come else [(size, False) for size in range(1, count + 1)])
    for size, is_key in sizes:
        if size <= count and (is_key or parts > 1):
            rest = rest_of_parts(count - size, parts, left - 1, level, not is_key)
            if rest is not None:
                found.append(max(rest, cost + (0 if is_key else least_behind(size, level - 1))))
    return min(found, default=None)


class Counts(unittest.TestCase):
    def test_look_counts_by_all_lots(self):
        for levels in few_keys():
            self.assertEqual(repr(look_counts(levels)), repr(counted(levels)))
        self.assertEqual(look_counts(()), (1,))
        self.assertEqual(look_counts((3,)), (0, 2))

    def test_no_look_in_vain(self):
        for levels in few_keys() + many_keys():
            counts = look_counts(levels)
            self.assertEqual(sum(counts), 2 ** len(levels))
            self.assertEqual(sum(Fraction(many, 2 ** looks) for looks, many in enumerate(counts)), 1)
            self.assertNotEqual(counts[-1], 0)
            self.assertEqual(len(counts) - 1, most_looks(levels, max(1, len(levels))))


class Most(unittest.TestCase):
    def test_most_looks_and_the_first_lot_by_all_lots(self):
        for levels in few_keys():
            all_lots = lots(len(levels))
            looks = {lot: len(walk_by_words(levels, lot)) for lot in all_lots}
            for count in list(range(1, len(levels) + 3)) + [24, 25, 10 ** 89]:
                most = max(looks[lot] for lot in all_lots if len(lot) <= count)
                first = next(lot for lot in all_lots if looks[lot] == most)
                self.assertEqual(repr(most_looks(levels, count)), repr(most))
                self.assertEqual(repr(most_lot(levels, count)), repr(first))

    def test_one_key_and_two_of_many(self):
        for levels in many_keys():
            for count in (1, 2):
                some = [lot for size in range(count + 1) for lot in combinations(range(len(levels)), size)]
                looks = [len(walk_of(levels, lot)) for lot in some]
                self.assertEqual(most_looks(levels, count), max(looks))
                self.assertEqual(most_lot(levels, count), some[looks.index(max(looks))])

    def test_worst_stores(self):
        for levels in few_keys() + many_keys():
            for count in list(range(1, len(levels) + 2)) + [10 ** 89]:
                stores = worst_stores(levels, count)
                self.assertIs(type(stores), tuple)
                one, other = stores
                self.assertLessEqual(len(page_differing(levels, one, other)), count)
                self.assertEqual(len(page_walk(levels, one, other)), most_looks(levels, count))
                self.assertEqual(len(walk_of(levels, most_lot(levels, count))), most_looks(levels, count))

    def test_never_less_with_a_greater_count(self):
        for levels in few_keys() + many_keys():
            found = [most_looks(levels, count) for count in range(1, len(levels) + 3)]
            self.assertEqual(found, sorted(found))
            if levels:
                self.assertEqual(set(found[len(levels) - 1:]), {most_looks(levels, len(levels))})

    def test_levels_of_0_alone(self):
        for keys in range(2, 25):
            for count in (1, 2, keys, 99):
                self.assertEqual(most_looks((0,) * keys, count), keys + 1)
        self.assertEqual([most_looks((), 1), most_looks((0,), 1), most_lot((), 1), most_lot((0,), 1)], [0, 1, (), ()])
        self.assertEqual([worst_stores((), 1), most_lot((0, 0), 1)], [((), ()), (0,)])

    def test_how_long_it_takes(self):
        begun = time.perf_counter()
        for levels in many_keys():
            for count in (1, 7, 24):
                most_lot(levels, count)
                worst_stores(levels, count)
            look_counts(levels)
        self.assertLess(time.perf_counter() - begun, 10)


class Least(unittest.TestCase):
    def test_least_looks_by_all_levels_of_few_keys(self):
        for number in range(1, 7):
            found = [max(len(walk_of(levels, (key,))) for key in range(number))
                     for levels in product(range(5 if number < 6 else 4), repeat=number)]
            self.assertEqual(least_looks(number), min(found))
        self.assertEqual(least_looks(0), 0)

    def test_least_looks_by_the_best_inner_stretches(self):
        for number in range(1, 25):
            self.assertEqual(repr(least_looks(number)), repr(1 + least_behind(number, 4)))

    def test_least_looks_by_f6(self):
        reach = [0, 1, 1]
        while reach[-1] < 24:
            reach.append(reach[-2] + reach[-3] + 1)
        for number in range(25):
            self.assertEqual(least_looks(number), next(looks for looks, keys in enumerate(reach) if keys >= number))

    def test_best_levels(self):
        for number in range(25):
            levels = best_levels(number)
            self.assertIs(type(levels), tuple)
            self.assertEqual(len(levels), number)
            self.assertTrue(all(type(level) is int and 0 <= level <= 4 for level in levels))
            self.assertEqual(most_looks(levels, 1), least_looks(number))
            self.assertEqual(max([len(walk_of(levels, lot)) for lot in [()] + [(key,) for key in range(number)]]),
                             least_looks(number))

    def test_too_many(self):
        for function in (least_looks, best_levels):
            for number in (25, 26, 100, 10 ** 89):
                error = raised(function, number)
                self.assertIs(type(error), TooMany)
                self.assertEqual(repr(error.count), "24")
            for number in (-1, True, None, "25", (25,), 25.0, -10 ** 89):
                self.assertIs(type(raised(function, number)), InvalidCount)


if __name__ == "__main__":
    unittest.main()
