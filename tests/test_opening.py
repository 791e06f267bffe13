"""opened_bounds and opening_ranking: fact B3."""

import unittest
from functools import lru_cache
from itertools import permutations, product

from helpers import grown_tree, lots, numbers, raised, some_lots
from oneshape.errors import InvalidCount
from oneshape.parted import opened, opened_bounds, opening_ranking
from oneshape.trees import is_ranking


def rows(size):
    """All rows of so many keys, each of the one content, of the other, or of both."""
    return ["".join(row) for row in product("abc", repeat=size)]


def contents_of(row, places):
    one = tuple(place for place, kind in zip(places, row) if kind in "ac")
    other = tuple(place for place, kind in zip(places, row) if kind in "bc")
    return one, other


def has_both(row):
    return "c" in row or "a" in row and "b" in row


def count_opened(row, order):
    """How many of the row's places are opened, if they have ranks in this order from the greatest on."""
    if not has_both(row):
        return 0
    top = order[0]
    low = [place for place in order if place < top]
    high = [place - top - 1 for place in order if place > top]
    return 1 + count_opened(row[:top], low) + count_opened(row[top + 1:], high)


@lru_cache(maxsize=None)
def reachable(row):
    """All numbers of opened keys by any ranking, told from the choice of the first opened key."""
    if not has_both(row):
        return frozenset([0])
    return frozenset(1 + low + high for top in range(len(row))
                     for low in reachable(row[:top]) for high in reachable(row[top + 1:]))


def bounds_by_b3(one, other):
    if not one or not other:
        return (0, 0)
    either = sorted(set(one) | set(other))
    most = len(either) if set(one) & set(other) else len(either) - 1
    least, passed = 0, set()
    for key in either:
        kinds = {"one"} if key not in other else {"other"} if key not in one else {"one", "other"}
        if len(passed | kinds) == 2:
            least, passed = least + 1, set()
        else:
            passed |= kinds
    return (least, most)


class Bounds(unittest.TestCase):
    def test_by_all_rankings_of_few_keys(self):
        for size in range(6):
            orders = list(permutations(range(size)))
            for row in rows(size):
                counts = {count_opened(row, order) for order in orders}
                self.assertEqual(repr(opened_bounds(*contents_of(row, range(size)))), repr((min(counts), max(counts))))
                self.assertEqual(counts, set(range(min(counts), max(counts) + 1)))

    def test_by_the_choices_of_the_first_opened_key(self):
        for size in range(9):
            for row in rows(size)[::1 if size < 8 else 5]:
                counts = reachable(row)
                self.assertEqual(opened_bounds(*contents_of(row, range(size))), (min(counts), max(counts)))
                self.assertEqual(len(counts), max(counts) - min(counts) + 1)

    def test_by_the_trees_of_the_contents(self):
        for one, other in product(lots(4), repeat=2):
            counts = {len(opened(ranking, grown_tree(ranking, one), grown_tree(ranking, other)))
                      for ranking in permutations(range(4))}
            self.assertEqual(opened_bounds(one, other), (min(counts), max(counts)))

    def test_keys_far_apart_count_as_neighbours(self):
        for row in rows(4):
            self.assertEqual(opened_bounds(*contents_of(row, (0, 7, 8, 23))), opened_bounds(*contents_of(row, range(4))))

    def test_24_keys_by_b3(self):
        for one, other in product(some_lots(61, 30), repeat=2):
            self.assertEqual(repr(opened_bounds(one, other)), repr(bounds_by_b3(one, other)))
            self.assertEqual(opened_bounds(one, other), opened_bounds(other, one))
        whole = tuple(range(24))
        self.assertEqual(opened_bounds(whole, whole), (24, 24))
        self.assertEqual(opened_bounds(whole[::2], whole[1::2]), (12, 23))
        self.assertEqual(opened_bounds(whole[:12], whole[12:]), (1, 23))
        self.assertEqual(opened_bounds((), ()), (0, 0))
        self.assertEqual(opened_bounds(whole, ()), (0, 0))


class OpeningRankings(unittest.TestCase):
    def check_ranking(self, one, other, number):
        ranking = opening_ranking(one, other, number)
        self.assertTrue(is_ranking(ranking))
        self.assertEqual(len(ranking), 24)
        self.assertTrue(all(abs(rank) < 10 ** 90 for rank in ranking))
        told = opened(ranking, grown_tree(ranking, one), grown_tree(ranking, other))
        self.assertEqual(len(told), number, (one, other))
        self.assertEqual(repr(opening_ranking(one, other, number)), repr(ranking))

    def check(self, one, other):
        least, most = bounds_by_b3(one, other)
        for number in range(least, most + 1):
            self.check_ranking(one, other, number)
        for number in (least - 1, most + 1, most + 24, 10 ** 89, -10 ** 89):
            self.assertIs(type(raised(opening_ranking, one, other, number)), InvalidCount)

    def test_each_number_of_few_keys(self):
        for size in range(6):
            for row in rows(size):
                self.check(*contents_of(row, range(size)))
                self.check(*contents_of(row, (1, 2, 9, 20, 23)[:size]))

    def test_each_number_of_more_keys(self):
        draws = numbers(62)
        for size in (8, 11, 16, 24):
            for _ in range(25):
                row = "".join("abcaabbb"[next(draws) % 8] for _ in range(size))
                self.check(*contents_of(row, range(size)))
        whole = tuple(range(24))
        for one, other in [(whole, whole), (whole, ()), ((), ()), (whole[::2], whole[1::2]), (whole[:12], whole[12:]),
                           (whole, (11,)), ((0,), (23,)), ((5,), (5,)), (whole[1:], (0,)), (whole, (0, 23))]:
            self.check(one, other)

    def test_no_number(self):
        for one, other in [((0, 1), (2, 4)), ((1,), (1,)), ((), (1,)), ((1,), (2,))]:
            for number in (True, False, None, "1", "", (1,), [1], (), 1.0, 0.0):
                self.assertIs(type(raised(opening_ranking, one, other, number)), InvalidCount)


if __name__ == "__main__":
    unittest.main()
