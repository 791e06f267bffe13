"""Stores and looks: points [18] and [19], facts D1, D2, D3 and D4."""

import time
import unittest
from itertools import combinations, product

from helpers import (
    OwnInteger, OwnTuple, grown_tree, held_by, numbers, parts_by_top, raised, shuffled, small_rankings, some_lots,
    wide_rankings,
)
from oneshape.errors import InvalidCount
from oneshape.looks import differing, hardest, is_store, look_count, look_run, most_parting, parting
from oneshape.reach import longest_way

GREAT = 999999999


def small_stores(count):
    """All stores of keys less than count with worths of two kinds."""
    found = []
    for worths in product((None, 0, -5), repeat=count):
        found.append(tuple((key, worth) for key, worth in enumerate(worths) if worth is not None))
    return found


def wide_pairs(seed):
    """Pairs of stores of 24 keys that differ at no key, at few, at half, at all; one of them perhaps ()."""
    draws = numbers(seed)
    one = tuple((key, next(draws) % (2 * GREAT + 1) - GREAT) for key in range(24) if next(draws) % 4)
    few = dict(one)
    few[next(draws) % 24] = 7
    few.pop(next(draws) % 24, None)
    half = {key: worth if next(draws) % 2 else worth // 2 for key, worth in one if next(draws) % 3}
    others = [one, (), tuple(sorted(few.items())), tuple(sorted(half.items())),
              tuple((key, -worth or 1) for key, worth in one),
              tuple((key, 1) for key in range(24) if key not in dict(one)), one[:5], one[12:]]
    return [(one, other) for other in others] + [((), ())]


def samples():
    for ranking in small_rankings(3):
        for one, other in product(small_stores(len(ranking)), repeat=2):
            yield ranking, one, other
    for ranking in [(2, 0, 3, 1), (-7, 10 ** 89, -10 ** 89, 0)]:
        for one, other in product(small_stores(4)[::2], repeat=2):
            yield ranking, one, other
    for seed, ranking in enumerate(wide_rankings()):
        for more in range(3):
            for one, other in wide_pairs(10 * seed + more):
                yield ranking, one, other
                yield ranking, other, one


def keys_differing(one, other):
    return tuple(key for key in range(24) if dict(one).get(key) != dict(other).get(key))


def run_of(ranking, one, other):
    """The looks, gone through with the gaps that are still to be looked at."""
    here, there, run = dict(one), dict(other), []
    gaps = [(-1, len(ranking))]
    while gaps:
        low, high = gaps.pop()
        inner = range(low + 1, high)
        if all(here.get(key) == there.get(key) for key in inner):
            run.append((low, high, "same"))
        elif not any(key in here for key in inner) or not any(key in there for key in inner):
            run.append((low, high, "lone"))
        else:
            run.append((low, high, "opened"))
            held = [key for key in inner if key in here or key in there]
            top = sorted(held, key=lambda key: ranking[key])[-1]
            gaps += [(top, high), (low, top)]
    return run


class Stores(unittest.TestCase):
    def test_stores(self):
        for count in range(4):
            for store in small_stores(count):
                for size in range(5):
                    wanted = all(key < size for key, _ in store)
                    self.assertIs(is_store(tuple(range(size)), store), wanted)
        for one, other in wide_pairs(1):
            self.assertIs(is_store(tuple(range(24)), one), True)
            self.assertIs(is_store(tuple(range(24)), other), True)

    def test_nearly_stores(self):
        ranking = (5, 40, 12)
        good = [(), ((0, 1),), ((2, -GREAT),), ((1, GREAT),), ((0, 0), (2, 0)), ((0, 5), (1, 5), (2, 5))]
        for value in good:
            self.assertIs(is_store(ranking, value), True, value)
            self.assertIs(is_store((), value), value == ())
        for value in [
            [], [(0, 1)], ([0, 1],), ((0, 1), [1, 1]), ((0,),), ((0, 1, 2),), ((),), (0, 1), ((0, 1), ()), ((0, None),),
            ((3, 1),), ((-1, 1),), ((0, GREAT + 1),), ((0, -GREAT - 1),), ((0, True),), ((True, 0),), ((False, 0),),
            ((0, False),), ((0, 1), (0, 1)), ((0, 1), (0, 2)), ((1, 1), (0, 1)), ((0, 1), (2, 1), (1, 1)),
            ((0, 1), (1, 1), (2, 1), (3, 1)), ((0, "1"),), (("0", 1),), ((0, 1.0),), ((0.0, 1),), ((0, (1,)),),
            (((0,), 1),), ((0, 10 ** 89),), ((10 ** 89, 1),), ((0, 1), None), ((0, 1), 1), {0: 1}, ((0, 1),) * 2,
            OwnTuple(), OwnTuple(((0, 1),)), (OwnTuple((0, 1)),), ((OwnInteger(0), 1),), ((0, OwnInteger(1)),), "", "01",
        ]:
            self.assertIs(is_store(ranking, value), False, value)

    def test_values_of_no_such_kind(self):
        deep, deep_list = (), []
        for _ in range(40):
            deep, deep_list = (deep,), [deep_list]
        for value in [None, True, False, 0, 10 ** 89, "x" * 20000, deep, deep_list, (deep,), ((0, deep),), ((deep, 0),),
                      tuple(range(3000)), list(range(3000)), ((0, 1),) * 1000, ((),) * 3000, (0, 0, 0)]:
            for ranking in ((), (7,), tuple(range(24))):
                self.assertIs(is_store(ranking, value), False, value)
        many = tuple((key, 0) for key in range(1000))
        self.assertIs(is_store(tuple(range(24)), many), False)
        self.assertIs(is_store(tuple(range(24)), many[:24]), True)
        self.assertIs(is_store(tuple(range(23)), many[:24]), False)


class Looks(unittest.TestCase):
    def test_runs(self):
        for ranking, one, other in samples():
            run = look_run(ranking, one, other)
            self.assertIs(type(run), list)
            self.assertEqual(repr(run), repr(run_of(ranking, one, other)))
            self.assertEqual(repr(look_count(ranking, one, other)), repr(len(run)))
            self.assertEqual(repr(differing(ranking, one, other)), repr(keys_differing(one, other)))

    def test_the_parting_keys(self):
        for ranking, one, other in samples():
            told = parting(ranking, one, other)
            here, there = {key for key, _ in one}, {key for key, _ in other}
            differ = set(keys_differing(one, other))
            parts = parts_by_top(grown_tree(ranking, here | there))
            by_d2 = tuple(top for top in sorted(parts)
                          if all(set(held_by(parts[top])) & keys for keys in (differ, here, there)))
            self.assertEqual(repr(told), repr(by_d2))
            self.assertEqual(look_count(ranking, one, other), 1 + 2 * len(told))
            self.assertEqual(look_count(ranking, other, one), 1 + 2 * len(told))
            self.assertEqual(parting(ranking, other, one), told)

    def test_each_differing_key_is_parting_or_in_one_lone_gap(self):
        for ranking, one, other in samples():
            told, differ = parting(ranking, one, other), keys_differing(one, other)
            lone = [(low, high) for low, high, word in look_run(ranking, one, other) if word == "lone"]
            for key in differ:
                gaps = [gap for gap in lone if gap[0] < key < gap[1]]
                self.assertEqual(len(gaps), 0 if key in told else 1)
            held = {key for key, _ in one + other}
            for low, high in lone:
                self.assertLessEqual({key for key in held if low < key < high}, set(differ))

    def test_ends(self):
        self.assertEqual(look_run((), (), ()), [(-1, 0, "same")])
        self.assertEqual(look_run((4,), (), ()), [(-1, 1, "same")])
        self.assertEqual(look_run((4,), ((0, 1),), ()), [(-1, 1, "lone")])
        self.assertEqual(look_run((4,), (), ((0, 1),)), [(-1, 1, "lone")])
        self.assertEqual(look_run((4,), ((0, 1),), ((0, 2),)), [(-1, 1, "opened"), (-1, 0, "same"), (0, 1, "same")])
        self.assertEqual([parting((), (), ()), differing((), (), ()), look_count((), (), ())], [(), (), 1])
        whole = tuple((key, 0) for key in range(24))
        unlike = tuple((key, 1) for key in range(24))
        self.assertEqual(parting(tuple(range(24)), whole, unlike), tuple(range(24)))
        self.assertEqual(look_count(tuple(range(24)), whole, unlike), 49)
        self.assertEqual(look_run(tuple(range(24)), whole, whole), [(-1, 24, "same")])
        # A key that only one of both has, side by side with one that only the other has.
        self.assertEqual(look_run((1, 2), ((0, 1),), ((1, 1),)), [(-1, 2, "opened"), (-1, 1, "lone"), (1, 2, "same")])

    def test_each_list_is_new(self):
        kept = repr(look_run((1, 2), ((0, 1),), ((1, 1),)))
        look_run((1, 2), ((0, 1),), ((1, 1),)).clear()
        self.assertEqual(repr(look_run((1, 2), ((0, 1),), ((1, 1),))), kept)


def parting_at(ranking, lot):
    """How many keys are parting if two stores with all keys differ at just these."""
    one = tuple((key, 0) for key in range(len(ranking)))
    other = tuple((key, 1 if key in lot else 0) for key in range(len(ranking)))
    return len(parting(ranking, one, other))


def ways_of_all(ranking):
    """For each key the keys of its way in the tree of all keys, as bits."""
    parts = parts_by_top(grown_tree(ranking, range(len(ranking))))
    return [sum(1 << top for top in parts if key in held_by(parts[top])) for key in range(len(ranking))]


def together(ways, lot):
    bits = 0
    for key in lot:
        bits |= ways[key]
    return bits.bit_count()


def most_by_longest_ways(ways, count):
    """The keys of all ways if each time one of those is taken that has the most keys not yet passed."""
    passed = 0
    for _ in range(count):
        passed |= max(ways, key=lambda way: (way & ~passed).bit_count())
    return passed.bit_count()


class Hardest(unittest.TestCase):
    def test_by_all_lots_of_few_keys(self):
        for ranking in small_rankings(4) + [shuffled(range(size), seed) for size in (5, 6, 7) for seed in range(12)]:
            for count in range(1, len(ranking) + 1):
                counts = {lot: parting_at(ranking, lot) for lot in combinations(range(len(ranking)), count)}
                most = max(counts.values())
                self.assertEqual(repr(most_parting(ranking, count)), repr(most))
                self.assertEqual(repr(hardest(ranking, count)), repr(min(lot for lot in counts if counts[lot] == most)))

    def test_by_the_ways_of_all_lots(self):
        for size, seeds in [(9, 6), (11, 4), (13, 1)]:
            for seed in range(seeds):
                ranking = shuffled(range(-3, size - 3), 70 + seed)
                ways = ways_of_all(ranking)
                for count in range(1, size + 1):
                    most = max(together(ways, lot) for lot in combinations(range(size), count))
                    first = next(lot for lot in combinations(range(size), count) if together(ways, lot) == most)
                    self.assertEqual(most_parting(ranking, count), most)
                    self.assertEqual(hardest(ranking, count), first)

    def test_each_count_for_24_keys(self):
        longest = 0
        for ranking in wide_rankings() + [shuffled(range(24), seed) for seed in range(40, 50)]:
            ways, before = ways_of_all(ranking), 0
            for count in range(1, 25):
                begun = time.perf_counter()
                most, lot = most_parting(ranking, count), hardest(ranking, count)
                longest = max(longest, time.perf_counter() - begun)
                self.assertEqual(repr(most), repr(most_by_longest_ways(ways, count)))
                self.assertEqual(len(lot), count)
                self.assertEqual(repr(lot), repr(tuple(sorted(set(lot)))))
                self.assertEqual(parting_at(ranking, lot), most)
                self.assertLessEqual(before, most)
                before = most
                if count <= 3 or count >= 22:
                    first = next(some for some in combinations(range(24), count) if together(ways, some) == most)
                    self.assertEqual(lot, first)
            self.assertEqual(most_parting(ranking, 1), longest_way(ranking, tuple(range(24))))
            self.assertEqual(most_parting(ranking, 24), 24)
        self.assertLess(longest, 2)

    def test_counts_of_small_rankings(self):
        for ranking in small_rankings(5):
            if ranking:
                self.assertEqual(most_parting(ranking, 1), longest_way(ranking, tuple(range(len(ranking)))))
                self.assertEqual(hardest(ranking, len(ranking)), tuple(range(len(ranking))))

    def test_wrong_counts(self):
        for ranking in ((), (4,), (5, 40, 12, 33, 7), tuple(range(24))):
            for count in (0, -1, len(ranking) + 1, 25, 10 ** 89, -10 ** 89, True, False, None, "1", (1,), [1], (), 1.0,
                          OwnInteger(1)):
                for function in (most_parting, hardest):
                    self.assertIs(type(raised(function, ranking, count)), InvalidCount, (ranking, count))


class OtherRanks(unittest.TestCase):
    def test_stores_of_fewer_keys_than_ranks(self):
        for ranking in wide_rankings():
            for content in some_lots(77, 6):
                store = tuple((key, key) for key in content)
                self.assertEqual(look_run(ranking, store, store), [(-1, 24, "same")])
                wanted = "lone" if content else "same"
                self.assertEqual(look_run(ranking, store, ()), [(-1, 24, wanted)])
                self.assertEqual(differing(ranking, store, ()), content)


if __name__ == "__main__":
    unittest.main()
