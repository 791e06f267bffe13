"""Trees of contents, ways, and what is above and below: facts A1, A2 and the rest of A4."""

import unittest
from itertools import permutations

from helpers import (
    grown_tree, held_by, lots, parts_by_top, raised, shuffled, small_rankings, some_lots, wide_rankings,
)
from oneshape.errors import Refused
from oneshape.trees import (
    above, below, content_of, is_ranking, is_search_tree, least_ranking, put_in, taken_out, top_between, tree_of, way,
)


class Contents(unittest.TestCase):
    def check(self, ranking, content):
        tree = tree_of(ranking, content)
        self.assertEqual(repr(tree), repr(grown_tree(ranking, content)))
        self.assertEqual(repr(content_of(ranking, tree)), repr(content))
        self.assertTrue(is_search_tree(tree))

    def test_the_tree_and_back(self):
        for ranking in small_rankings(5):
            contents = lots(len(ranking))
            for content in contents:
                self.check(ranking, content)
            self.assertEqual(len({tree_of(ranking, content) for content in contents}), len(contents))
        for ranking in wide_rankings():
            contents = some_lots(21, 30)
            for content in contents:
                self.check(ranking, content)
            self.assertEqual(len({tree_of(ranking, content) for content in contents}), len(set(contents)))

    def test_without_keys(self):
        self.assertEqual(tree_of((), ()), ())
        self.assertEqual(content_of((), ()), ())
        self.assertEqual(tree_of((4, 2), ()), ())

    def test_keys_put_in_in_any_sequence(self):
        for ranking in small_rankings(4):
            for content in lots(len(ranking)):
                for sequence in permutations(content):
                    tree = ()
                    for key in sequence:
                        tree = put_in(ranking, tree, key)
                    self.assertEqual(tree, tree_of(ranking, content))
        for ranking in wide_rankings():
            for seed in (1, 2, 3):
                tree = ()
                for key in shuffled(range(24), seed):
                    tree = put_in(ranking, tree, key)
                self.assertEqual(tree, grown_tree(ranking, range(24)))

    def check_deeds(self, ranking, content):
        tree = tree_of(ranking, content)
        for key in range(len(ranking)):
            if key in content:
                less = taken_out(ranking, tree, key)
                self.assertEqual(repr(less), repr(grown_tree(ranking, set(content) - {key})))
                self.assertEqual(put_in(ranking, less, key), tree)
                self.assertIs(type(raised(put_in, ranking, tree, key)), Refused)
            else:
                more = put_in(ranking, tree, key)
                self.assertEqual(repr(more), repr(grown_tree(ranking, set(content) | {key})))
                self.assertEqual(taken_out(ranking, more, key), tree)
                self.assertIs(type(raised(taken_out, ranking, tree, key)), Refused)

    def test_put_in_and_taken_out_undo_each_other(self):
        for ranking in small_rankings(4):
            for content in lots(len(ranking)):
                self.check_deeds(ranking, content)
        for ranking in wide_rankings():
            for content in some_lots(22, 6):
                self.check_deeds(ranking, content)


class Ways(unittest.TestCase):
    def check(self, ranking, content):
        tree = tree_of(ranking, content)
        parts = parts_by_top(tree)
        for key in range(len(ranking)):
            passed = way(ranking, tree, key)
            wanted = sorted((top for top in parts if self.passes(ranking, content, top, key)),
                            key=lambda top: -ranking[top])
            self.assertEqual(repr(passed), repr(tuple(wanted)))
            if key in parts:
                held = tuple(top for top in sorted(parts) if top != key and key in held_by(parts[top]))
                self.assertEqual(repr(above(ranking, content, key)), repr(held))
                inner = tuple(member for member in held_by(parts[key]) if member != key)
                self.assertEqual(repr(below(ranking, content, key)), repr(inner))
                self.assertEqual(passed[-1], key)
            else:
                self.assertIs(type(raised(above, ranking, content, key)), Refused)
                self.assertIs(type(raised(below, ranking, content, key)), Refused)

    def passes(self, ranking, content, top, key):
        """A key is passed on the way exactly if none of the content from it to the sought key has a greater rank."""
        low, high = min(top, key), max(top, key)
        return all(ranking[member] <= ranking[top] for member in content if low <= member <= high)

    def test_small_rankings(self):
        for ranking in small_rankings(4):
            for content in lots(len(ranking)):
                self.check(ranking, content)

    def test_24_keys(self):
        for ranking in wide_rankings():
            for content in some_lots(23, 6):
                self.check(ranking, content)

    def check_tops(self, ranking, content):
        tree = tree_of(ranking, content)
        ways = {key: way(ranking, tree, key) for key in content}
        for key in range(len(ranking)):
            for other in range(len(ranking)):
                stretch = [member for member in content if min(key, other) <= member <= max(key, other)]
                wanted = sorted(stretch, key=lambda member: ranking[member])[-1] if stretch else None
                told = top_between(ranking, content, key, other)
                self.assertEqual(repr(told), repr(wanted))
                if key in content and other in content:
                    common = [member for member in ways[key] if member in ways[other]]
                    self.assertEqual(told, common[-1])
                    self.assertEqual(key != other and told == key, key in above(ranking, content, other))

    def test_the_top_between_two_keys(self):
        for ranking in small_rankings(4):
            for content in lots(len(ranking)):
                self.check_tops(ranking, content)
        for ranking in wide_rankings():
            for content in some_lots(24, 2):
                self.check_tops(ranking, content)


class LeastRankings(unittest.TestCase):
    def test_ranks_from_0_in_the_same_order(self):
        for ranking in small_rankings(5) + wide_rankings() + [(9,), (-3, 10 ** 89, -4), (7, 5, 6)]:
            least = least_ranking(ranking)
            self.assertIs(is_ranking(least), True)
            self.assertEqual(sorted(least), list(range(len(ranking))))
            keys = range(len(ranking))
            self.assertEqual(sorted(keys, key=lambda key: least[key]), sorted(keys, key=lambda key: ranking[key]))
            self.assertEqual(repr(least_ranking(least)), repr(least))
            for content in some_lots(25, 4):
                if len(ranking) == 24:
                    self.assertEqual(tree_of(ranking, content), tree_of(least, content))

    def test_least_rankings_are_themselves(self):
        for ranking in small_rankings(5):
            self.assertEqual(repr(least_ranking(ranking)), repr(ranking))


if __name__ == "__main__":
    unittest.main()
