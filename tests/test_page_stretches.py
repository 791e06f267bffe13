"""Page stretches and page walks: points [23] and [24], facts F1 and F2."""

import unittest
from itertools import product

from helpers import OwnInteger, OwnList, OwnTuple, lots, numbers, raised
from oneshape import errors
from oneshape.page_looks import (
    inner_stretches, is_page_walk, page_differing, page_stretches, page_walk, walk_lot, walk_of,
)


def small_levels(most):
    """All levels of 0, 1 and 2 of at most so many keys, and some with greater levels."""
    found = [levels for count in range(most + 1) for levels in product(range(3), repeat=count)]
    return found + [(4, 0), (3, 4, 0), (0, 4, 1, 3), (4, 4, 4, 4), (2, 3, 4, 0)]


def drawn_levels(count, seed, how_many):
    """Levels of so many keys: of 0 alone, mostly low ones, any ones."""
    draws = numbers(seed)
    found = [(0,) * count]
    for at in range(how_many):
        if at % 2:
            found.append(tuple(next(draws) % 5 for _ in range(count)))
        else:
            found.append(tuple(min(next(draws) % 3, next(draws) % 5) for _ in range(count)))
    return found


def drawn_lots(count, seed, how_many):
    """Lots of keys less than count: (), all, of one key, of few, of half of them."""
    draws = numbers(seed)
    found = [(), tuple(range(count))] + [(key,) for key in range(count)][::5]
    for at in range(how_many):
        share = (9, 4, 2)[at % 3]
        found.append(tuple(key for key in range(count) if next(draws) % share == 0))
    return found


def stretches_by_words(levels):
    """All stretches that some level tells and that lie in no longer such one, and each key by itself."""
    count = len(levels)
    found = {(key, key) for key in range(count)}
    for level in range(5):
        rows = [(first, last) for first in range(count) for last in range(first, count)
                if all(levels[key] <= level for key in range(first, last + 1))]
        found |= {row for row in rows if not any(within(row, other) and row != other for other in rows)}
    return sorted(found)


def within(one, other):
    return other[0] <= one[0] and one[1] <= other[1]


def inner_by_words(stretches, stretch):
    inside = [other for other in stretches if within(other, stretch) and other != stretch]
    return [one for one in inside if not any(within(one, other) and one != other for other in inside)]


def walk_by_words(levels, lot):
    """The page walk, gone through with the stretches that are still to come."""
    if not levels:
        return []
    stretches = stretches_by_words(levels)
    run, coming = [], [((0, len(levels) - 1), True)]
    while coming:
        (first, last), asked = coming.pop()
        differs = any(first <= key <= last for key in lot)
        if asked:
            run.append((first, last, not differs))
        if differs:
            inner = inner_by_words(stretches, (first, last))
            others = any(low <= key <= high for low, high in inner[:-1] for key in lot)
            coming += [(part, part != inner[-1] or others) for part in inner[::-1]]
    return run


def samples():
    for levels in small_levels(4):
        for lot in lots(len(levels)):
            yield levels, lot
    for count in (5, 6, 8):
        for levels in drawn_levels(count, count, 8):
            for lot in lots(count)[::3]:
                yield levels, lot
    for count in (15, 24):
        for levels in drawn_levels(count, count, 8):
            for lot in drawn_lots(count, count, 9):
                yield levels, lot


def all_levels():
    return small_levels(5) + [levels for count in (7, 12, 24) for levels in drawn_levels(count, 5 * count, 12)]


class Stretches(unittest.TestCase):
    def test_page_stretches(self):
        for levels in all_levels():
            found = page_stretches(levels)
            self.assertIs(type(found), list)
            self.assertEqual(repr(found), repr(stretches_by_words(levels)))
        self.assertEqual(page_stretches(()), [])
        self.assertEqual(page_stretches((4,)), [(0, 0)])

    def test_inner_stretches(self):
        for levels in all_levels():
            stretches = stretches_by_words(levels)
            for stretch in stretches:
                found = inner_stretches(levels, stretch)
                self.assertIs(type(found), list)
                self.assertEqual(repr(found), repr(inner_by_words(stretches, stretch)))

    def test_one_within_the_other_or_no_key_in_common(self):
        for levels in all_levels():
            stretches = page_stretches(levels)
            for one in stretches:
                for other in stretches:
                    apart = one[1] < other[0] or other[1] < one[0]
                    self.assertTrue(apart or within(one, other) or within(other, one))
                inner = inner_stretches(levels, one)
                keys = [key for first, last in inner for key in range(first, last + 1)]
                if one[0] == one[1]:
                    self.assertEqual(inner, [])
                else:
                    self.assertGreaterEqual(len(inner), 2)
                    self.assertEqual(keys, list(range(one[0], one[1] + 1)))

    def test_what_is_no_page_stretch(self):
        for levels in small_levels(4) + drawn_levels(24, 3, 3):
            count = len(levels)
            stretches = page_stretches(levels)
            for first in range(-1, count + 1):
                for last in range(-1, count + 1):
                    error = raised(inner_stretches, levels, (first, last))
                    self.assertIs(type(error), type(None) if (first, last) in stretches else errors.InvalidStretch)
            for value in [None, (), [0, 0], (0,), (0, 0, 0), (0, 0, True), OwnTuple((0, 0)), (OwnInteger(0), 0), (False, 0),
                          (0, False), (0.0, 0), ((0, 0),), "00", 0, (0, 10 ** 89)]:
                self.assertIs(type(raised(inner_stretches, levels, value)), errors.InvalidStretch, value)


class Walks(unittest.TestCase):
    def test_walks(self):
        for levels, lot in samples():
            found = walk_of(levels, lot)
            self.assertIs(type(found), list)
            self.assertEqual(repr(found), repr(walk_by_words(levels, lot)))
            self.assertIs(is_page_walk(levels, found), True)
            self.assertEqual(repr(walk_lot(levels, found)), repr(lot))

    def test_walks_of_stores(self):
        for at, (levels, lot) in enumerate(samples()):
            draws = numbers(at)
            one = {key: next(draws) % 5 - 2 for key in range(len(levels)) if next(draws) % 2}
            other = dict(one)
            for key in lot:
                other[key] = one[key] + 1 if key in one else 0
                if key in one and next(draws) % 2:
                    del other[key]
            stores = [tuple(sorted(one.items())), tuple(sorted(other.items()))]
            for store, other_store in (stores, stores[::-1]):
                self.assertEqual(repr(page_differing(levels, store, other_store)), repr(lot))
                self.assertEqual(page_walk(levels, store, other_store), walk_of(levels, lot))

    def test_unlike_lots_have_unlike_walks_and_none_begins_another(self):
        for levels in small_levels(4) + drawn_levels(8, 2, 6):
            walks = [walk_of(levels, lot) for lot in lots(len(levels))]
            begun = {tuple(walk[:many]) for walk in walks for many in range(len(walk))}
            self.assertEqual(len({tuple(walk) for walk in walks}), len(walks))
            self.assertFalse([walk for walk in walks if tuple(walk) in begun])

    def test_walks_that_are_nearly_so(self):
        for levels in [(0,), (0, 0), (0, 1), (1, 0), (0, 1, 0), (2, 0, 1, 0), (0, 1, 0, 0, 2, 0)]:
            walks = [walk_of(levels, lot) for lot in lots(len(levels))]
            for walk in walks:
                for value in self.nearly(levels, walk):
                    self.assertIs(is_page_walk(levels, value), value in walks, value)
                    error = raised(walk_lot, levels, value)
                    self.assertIs(type(error), type(None) if value in walks else errors.InvalidWalk)

    def nearly(self, levels, walk):
        """The walk with a look less, more, twice, with two exchanged, with another truth or stretch."""
        found = [walk + [walk[-1]], walk[:-1], walk[1:], []]
        for at, (first, last, same) in enumerate(walk):
            ahead, behind = walk[:at], walk[at + 1:]
            found += [ahead + behind, ahead + [walk[at], walk[at]] + behind, ahead + [(first, last, not same)] + behind]
            found += [ahead + behind[:1] + [walk[at]] + behind[1:]]
            for stretch in page_stretches(levels):
                found += [ahead + [stretch + (same,)] + behind, ahead + [walk[at], stretch + (same,)] + behind]
        return found

    def test_looks_of_other_kinds(self):
        for levels in [(0,), (0, 1, 0), (0, 1, 0, 0, 2, 0)]:
            for walk in [walk_of(levels, lot) for lot in lots(len(levels))]:
                for at, (first, last, same) in enumerate(walk):
                    for look in [[first, last, same], (first, last), (first, last, int(same)), (first, last, same, same),
                                 (first, last, None), (bool(first), last, same), (OwnInteger(first), last, same),
                                 OwnTuple(walk[at]), None, 0, (), (first, last, float(same)), "look", (first, (last,), same)]:
                        value = walk[:at] + [look] + walk[at + 1:]
                        self.assertIs(is_page_walk(levels, value), False, value)
                        self.assertIs(type(raised(walk_lot, levels, value)), errors.InvalidWalk)
                for value in (tuple(walk), OwnList(walk), [walk], None, dict.fromkeys(walk)):
                    self.assertIs(is_page_walk(levels, value), False)

    def test_walks_of_other_levels(self):
        for levels in small_levels(3):
            for other in small_levels(3):
                walks = [walk_of(levels, lot) for lot in lots(len(levels))]
                for walk in [walk_of(other, lot) for lot in lots(len(other))]:
                    self.assertIs(is_page_walk(levels, walk), walk in walks)

    def test_values_of_no_such_kind(self):
        deep, deep_list = (), []
        for _ in range(40):
            deep, deep_list = (deep,), [deep_list]
        for levels in [(), (0,), (0, 1, 0), (0,) * 24]:
            last = len(levels) - 1
            for value in [None, True, 0, 10 ** 89, "x" * 20000, deep, deep_list, [deep], [(0, last, deep)], (),
                          [(0, last, False)] * 900, [(0, last, True)] * 900, list(range(3000)), [()] * 3000,
                          [(-10 ** 89, 10 ** 89, True)], [(0, 24, True)]]:
                self.assertIs(is_page_walk(levels, value), False, value)

    def test_each_list_is_new(self):
        for call in (lambda: walk_of((0, 1), (0,)), lambda: page_walk((0, 1), ((0, 1),), ()), lambda: page_stretches((0, 1)),
                     lambda: inner_stretches((0, 1), (0, 1))):
            kept = repr(call())
            call().append("mark")
            self.assertEqual(repr(call()), kept)


if __name__ == "__main__":
    unittest.main()
