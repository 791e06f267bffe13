"""Parts, deeds and how far they reach: fact A3, and longest_way."""

import unittest

from helpers import grown_tree, lots, parts_by_top, raised, small_rankings, some_lots, wide_rankings
from oneshape.errors import Refused
from oneshape.reach import behind, longest_way, part_of, parts_of, reach
from oneshape.trees import above, way


def told_by_a3(ranking, content, key):
    """The keys whose parts are new behind the deed, as A3 tells them by the way without the key."""
    without = tuple(member for member in content if member != key)
    with_key = tuple(sorted(without + (key,)))
    over = above(ranking, with_key, key)
    passed = way(ranking, grown_tree(ranking, without), key)
    turned = [member for at, member in enumerate(passed)
              if ranking[member] < ranking[key] and any((later < key) != (member < key) for later in passed[at + 1:])]
    own = () if key in content else (key,)
    return tuple(sorted({*own, *over, *turned}))


class Reach(unittest.TestCase):
    def check(self, ranking, content):
        tree = grown_tree(ranking, content)
        parts = parts_by_top(tree)
        listed = parts_of(ranking, tree)
        self.assertIs(type(listed), list)
        self.assertEqual(repr(listed), repr([parts[top] for top in sorted(parts)]))
        for key in range(len(ranking)):
            if key in parts:
                self.assertEqual(repr(part_of(ranking, tree, key)), repr(parts[key]))
            else:
                self.assertIs(type(raised(part_of, ranking, tree, key)), Refused)
            then = grown_tree(ranking, set(content) ^ {key})
            self.assertEqual(repr(behind(ranking, tree, key)), repr(then))
            new = tuple(top for top, part in sorted(parts_by_top(then).items()) if part not in parts.values())
            self.assertEqual(repr(reach(ranking, tree, key)), repr(new))
            self.assertEqual(new, told_by_a3(ranking, content, key))

    def test_small_rankings(self):
        for ranking in small_rankings(5):
            for content in lots(len(ranking)):
                self.check(ranking, content)

    def test_24_keys(self):
        for ranking in wide_rankings():
            for content in some_lots(41, 8):
                self.check(ranking, content)

    def test_without_keys(self):
        self.assertEqual(parts_of((), ()), [])
        self.assertEqual(parts_of((4,), ()), [])
        self.assertEqual(reach((4,), (), 0), (0,))
        self.assertEqual(reach((4,), ((), 0, ()), 0), ())
        self.assertEqual(behind((4,), ((), 0, ()), 0), ())

    def test_each_list_is_new(self):
        ranking = (5, 40, 12)
        tree = grown_tree(ranking, (0, 1, 2))
        first = parts_of(ranking, tree)
        first.append("mark")
        second = parts_of(ranking, tree)
        self.assertEqual(second, first[:3])
        self.assertIsNot(parts_of(ranking, ()), parts_of(ranking, ()))


class LongestWay(unittest.TestCase):
    def test_it_is_the_longest_of_all_ways(self):
        samples = [(ranking, content) for ranking in small_rankings(5) for content in lots(len(ranking))]
        samples += [(ranking, content) for ranking in wide_rankings() for content in some_lots(42, 20)]
        for ranking, content in samples:
            tree = grown_tree(ranking, content)
            wanted = max([len(way(ranking, tree, key)) for key in content], default=0)
            self.assertEqual(repr(longest_way(ranking, content)), repr(wanted))

    def test_in_a_row_and_without_keys(self):
        self.assertEqual(longest_way(tuple(range(24)), tuple(range(24))), 24)
        self.assertEqual(longest_way(tuple(range(24)), ()), 0)
        self.assertEqual(longest_way((), ()), 0)


if __name__ == "__main__":
    unittest.main()
