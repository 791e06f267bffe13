"""Trees parted, joined and put together: facts B1 and B2."""

import unittest
from itertools import permutations, product

from helpers import grown_tree, held_by, lots, parts_by_top, raised, small_rankings, some_lots, wide_rankings
from oneshape.errors import Refused
from oneshape.parted import common_tree, either_tree, fresh, joined, less_tree, opened, parted, unlike_tree


def pairs_of_contents():
    """(ranking, content, other content): all pairs of small rankings, and drawn ones of 24 keys."""
    for ranking in small_rankings(4):
        for one, other in product(lots(len(ranking)), repeat=2):
            yield ranking, one, other
    for ranking in [(2, 0, 4, 1, 3), (-5, 10 ** 89, 0, -10 ** 89, 7)]:
        for one, other in product(lots(5), repeat=2):
            yield ranking, one, other
    for seed, ranking in enumerate(wide_rankings()):
        drawn = some_lots(50 + seed, 8)
        for one, other in product(drawn, repeat=2):
            yield ranking, one, other


class Parting(unittest.TestCase):
    def check(self, ranking, content):
        tree = grown_tree(ranking, content)
        for key in range(len(ranking)):
            low = grown_tree(ranking, [member for member in content if member < key])
            high = grown_tree(ranking, [member for member in content if member > key])
            told = parted(ranking, tree, key)
            self.assertEqual(repr(told), repr((low, key in content, high)))
            without = grown_tree(ranking, set(content) - {key})
            self.assertEqual(repr(joined(ranking, told[0], told[2])), repr(without))

    def test_parted_and_joined_again(self):
        for ranking in small_rankings(5):
            for content in lots(len(ranking)):
                self.check(ranking, content)
        for ranking in wide_rankings():
            for content in some_lots(51, 12):
                self.check(ranking, content)

    def test_the_parts_of_either_are_those_of_both(self):
        for ranking in wide_rankings():
            for one, other in product(some_lots(52, 4), repeat=2):
                first, second = grown_tree(ranking, one), grown_tree(ranking, other)
                both = either_tree(ranking, first, second)
                for key in range(24):
                    low, there, high = parted(ranking, both, key)
                    one_low, in_one, one_high = parted(ranking, first, key)
                    other_low, in_other, other_high = parted(ranking, second, key)
                    self.assertEqual(low, either_tree(ranking, one_low, other_low))
                    self.assertEqual(high, either_tree(ranking, one_high, other_high))
                    self.assertIs(there, in_one or in_other)


class TreesOfTwo(unittest.TestCase):
    def test_against_the_trees_of_the_lots(self):
        for ranking, one, other in pairs_of_contents():
            first, second = grown_tree(ranking, one), grown_tree(ranking, other)
            here, there = set(one), set(other)
            for function, keys in [(either_tree, here | there), (common_tree, here & there),
                                   (less_tree, here - there), (unlike_tree, here ^ there)]:
                self.assertEqual(repr(function(ranking, first, second)), repr(grown_tree(ranking, keys)))

    def test_joined_or_refused(self):
        for ranking, one, other in pairs_of_contents():
            first, second = grown_tree(ranking, one), grown_tree(ranking, other)
            if one and other and max(one) >= min(other):
                self.assertIs(type(raised(joined, ranking, first, second)), Refused)
            else:
                self.assertEqual(repr(joined(ranking, first, second)), repr(grown_tree(ranking, one + other)))

    def test_joined_with_the_same_key_or_with_none(self):
        self.assertIs(type(raised(joined, (1, 2), ((), 0, ()), ((), 0, ()))), Refused)
        self.assertEqual(joined((1, 2), ((), 0, ()), ((), 1, ())), (((), 0, ()), 1, ()))
        self.assertIs(type(raised(joined, (1, 2), ((), 1, ()), ((), 0, ()))), Refused)
        self.assertEqual(joined((), (), ()), ())
        self.assertEqual(joined((1, 2), (), ((), 0, ())), ((), 0, ()))
        self.assertEqual(joined((1, 2), ((), 1, ()), ()), ((), 1, ()))

    def test_exchanged_and_put_together_again(self):
        for ranking, one, other in pairs_of_contents():
            first, second = grown_tree(ranking, one), grown_tree(ranking, other)
            for function in (either_tree, common_tree, unlike_tree):
                self.assertEqual(function(ranking, first, second), function(ranking, second, first))
            common, less = common_tree(ranking, first, second), less_tree(ranking, first, second)
            self.assertEqual(either_tree(ranking, common, less), first)

    def test_three_in_any_sequence(self):
        for ranking in wide_rankings():
            trees = [grown_tree(ranking, content) for content in some_lots(53, 3)[2:]]
            for function in (either_tree, common_tree, unlike_tree):
                told = {function(ranking, function(ranking, a, b), c) for a, b, c in permutations(trees)}
                told |= {function(ranking, a, function(ranking, b, c)) for a, b, c in permutations(trees)}
                self.assertEqual(len(told), 1)


class LaidOver(unittest.TestCase):
    def opened_by_stretches(self, ranking, one, other, low, high):
        here = [key for key in one if low <= key <= high]
        there = [key for key in other if low <= key <= high]
        if not here or not there:
            return []
        top = sorted(here + there, key=lambda key: ranking[key])[-1]
        return (self.opened_by_stretches(ranking, one, other, low, top - 1) + [top]
                + self.opened_by_stretches(ranking, one, other, top + 1, high))

    def test_opened(self):
        for ranking, one, other in pairs_of_contents():
            first, second = grown_tree(ranking, one), grown_tree(ranking, other)
            told = opened(ranking, first, second)
            wanted = tuple(self.opened_by_stretches(ranking, one, other, 0, len(ranking) - 1))
            self.assertEqual(repr(told), repr(wanted))
            parts = parts_by_top(grown_tree(ranking, set(one) | set(other)))
            by_b2 = tuple(key for key in sorted(parts)
                          if set(held_by(parts[key])) & set(one) and set(held_by(parts[key])) & set(other))
            self.assertEqual(told, by_b2)
            self.assertEqual(told, opened(ranking, second, first))

    def is_part(self, ranking, content, key, held):
        """Whether a key's part in the tree of either is a part of the content's tree, as B2 tells it."""
        if not set(held) <= set(content):
            return False
        lesser = [member for member in content if member < held[0]]
        greater = [member for member in content if member > held[-1]]
        return all(ranking[member] > ranking[key] for member in lesser[-1:] + greater[:1])

    def test_fresh(self):
        for ranking, one, other in pairs_of_contents():
            first, second = grown_tree(ranking, one), grown_tree(ranking, other)
            known = list(parts_by_top(first).values()) + list(parts_by_top(second).values())
            parts = parts_by_top(grown_tree(ranking, set(one) | set(other)))
            told = fresh(ranking, first, second)
            self.assertEqual(repr(told), repr(tuple(key for key in sorted(parts) if parts[key] not in known)))
            by_b2 = tuple(key for key in sorted(parts)
                          if not any(self.is_part(ranking, content, key, held_by(parts[key]))
                                     for content in (one, other)))
            self.assertEqual(told, by_b2)

    def test_without_keys(self):
        for function in (opened, fresh):
            self.assertEqual(function((), (), ()), ())
            self.assertEqual(function((3, 4), ((), 0, ()), ()), ())
            self.assertEqual(function((3, 4), (), (((), 0, ()), 1, ())), ())
        whole = grown_tree(range(24), range(24))
        self.assertEqual(opened(tuple(range(24)), whole, whole), tuple(range(24)))
        self.assertEqual(fresh(tuple(range(24)), whole, whole), ())


if __name__ == "__main__":
    unittest.main()
