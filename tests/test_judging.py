"""is_ranking, is_tree and is_search_tree: good values, nearly good ones, and values of no such kind."""

import unittest

from helpers import OwnInteger, OwnTuple, grown_tree, lots, raised, shuffled, small_rankings, some_lots, wide_rankings
from oneshape.errors import InvalidRanking
from oneshape.trees import is_ranking, is_search_tree, is_tree


def nested(kind, depth):
    value = kind()
    for _ in range(depth):
        value = kind([value])
    return value


def deep_left(depth, key):
    value = ()
    for _ in range(depth):
        value = (value, key, ())
    return value


def deep_right(depth):
    value = ()
    for key in range(depth - 1, -1, -1):
        value = ((), key, value)
    return value


STRANGE = [
    None, True, False, 0, 1, -1, 23, 10 ** 89, -10 ** 89, "", "-", "(-,1,-)", "x" * 20000,
    [], [1], [[], 1, []], (None,), ("",), ((),), ((), ()), ((), (), ()), (0,), (0, 0), (1, 2), (1, 2, 3, 4),
    ((), 0), ((), 0, (), ()), (0, (), ()), ((), (), 0), ((), None, ()), ((), "0", ()), ((), True, ()),
    ((), False, ()), ([], 0, ()), ((), 0, []), [(), 0, ()], (None, 0, ()), ((), 0, None), (0, 0, 0),
    ((), 0, (0,)), ((), (0,), ()), ((), [0], ()), ((), -1, ()), ((), 24, ()), ((), 10 ** 89, ()),
    nested(tuple, 40), nested(list, 40), deep_left(40, 3), deep_right(40), tuple(range(3000)), list(range(3000)),
    ((),) * 3000, ([],) * 3000, ((), 0, ((),) * 2900), (nested(tuple, 38), 0, ()), ((), 0, nested(list, 38)),
    OwnTuple(), OwnTuple(((), 0, ())), (OwnTuple(), 0, ()), ((), 0, OwnTuple()), ((), OwnInteger(0), ()),
]


class Rankings(unittest.TestCase):
    def test_rankings(self):
        good = small_rankings(4) + wide_rankings() + [(), (0,), (-1,), (10 ** 90 - 1, 1 - 10 ** 90), (0, -1, 1)]
        for value in good:
            self.assertIs(is_ranking(value), True, value)

    def test_24_ranks_but_not_25(self):
        self.assertIs(is_ranking(tuple(range(24))), True)
        self.assertIs(is_ranking(tuple(range(25))), False)
        self.assertIs(is_ranking(shuffled(range(-9, 16), 5)), False)
        self.assertIs(is_ranking(tuple(range(3000))), False)

    def test_nearly_rankings(self):
        for value in [
            [], [1, 2], (1, 1), (1, 2, 1), (True,), (False, 1), (2, True), (0, None), (0, "1"), (0, (1,)), (0, [1]),
            ((0, 1),), (10 ** 89, 10 ** 89), (-4, 3, -4), (OwnInteger(3),), OwnTuple((1, 2)), (5, 40, 12, 33, 40),
            tuple(range(23)) + (22,), tuple(range(23)) + (True,), {0: 1}, {1, 2}, 1.0, (1.0,), b"ab", "01",
        ]:
            self.assertIs(is_ranking(value), False, value)

    def test_values_of_no_such_kind(self):
        for value in STRANGE:
            good = type(value) is tuple and (value == () or value in ((0,), (1, 2), (1, 2, 3, 4)))
            self.assertIs(is_ranking(value), good, value)


class Trees(unittest.TestCase):
    def test_trees_of_all_contents_of_small_rankings(self):
        for ranking in small_rankings(4):
            for content in lots(len(ranking)):
                self.assertIs(is_tree(ranking, grown_tree(ranking, content)), True)

    def test_trees_by_other_ranks(self):
        for ranking in small_rankings(3):
            for other in small_rankings(4):
                for content in lots(len(other)):
                    value = grown_tree(other, content)
                    inside = all(key < len(ranking) for key in content)
                    good = inside and grown_tree(ranking, content) == value
                    self.assertIs(is_tree(ranking, value), good, (ranking, value))

    def test_trees_of_24_keys(self):
        for ranking in wide_rankings():
            for content in some_lots(11, 20):
                self.assertIs(is_tree(ranking, grown_tree(ranking, content)), True)
            whole = grown_tree(ranking, range(24))
            for other in wide_rankings():
                self.assertIs(is_tree(other, whole), grown_tree(other, range(24)) == whole)

    def test_nearly_trees(self):
        ranks = (5, 40, 12, 33, 7)
        self.assertIs(is_tree(ranks, ((((), 0, ()), 2, ()), 3, ((), 4, ()))), True)
        for value in [
            ((((), 0, ()), 2, ()), 3, [(), 4, ()]), [((), 0, ()), 1, ()], ([(), 0, ()], 1, ()), ((), True, ()),
            (((), False, ()), 1, ()), ((), 1, ((), 1, ())), (((), 1, ()), 1, ()), (((), 2, ()), 3, ((), 3, ())),
            ((), 3, ((), 2, ())), (((), 4, ()), 3, ()), (((), 0, ((), 3, ())), 3, ()), ((((), 3, ()), 2, ()), 3, ()),
            (((), 0, ((), 4, ())), 3, ()), ((), 5, ()), ((), -1, ()), ((), 1, ((), 5, ())), (((), -1, ()), 0, ()),
            ((), 0, ((), 1, ())), ((), 2, ((), 3, ())), (((), 0, ((), 2, ())), 3, ()), ((), 1), ((), 1, (), ()),
            ((), 1.0, ()), ((), 1, ((),)), ((), 1, None), ((), 1, OwnTuple()), ((), OwnInteger(1), ()),
        ]:
            self.assertIs(is_tree(ranks, value), False, value)

    def test_values_of_no_such_kind(self):
        for value in STRANGE:
            for ranking in ((), (1,), tuple(range(24))):
                self.assertIs(is_tree(ranking, value), type(value) is tuple and value == (), value)
        self.assertIs(is_tree((1,), ((), 0, ())), True)
        self.assertIs(is_tree((), ((), 0, ())), False)

    def test_the_ranking_must_be_one(self):
        for ranking in ([], (1, 1), (True,), None, tuple(range(25))):
            for value in ((), ((), 0, ()), None):
                self.assertIs(type(raised(is_tree, ranking, value)), InvalidRanking)


class SearchTrees(unittest.TestCase):
    def test_trees_by_rankings_are_search_trees(self):
        for ranking in small_rankings(4):
            for content in lots(len(ranking)):
                self.assertIs(is_search_tree(grown_tree(ranking, content)), True)
        for ranking in wide_rankings():
            for content in some_lots(12, 20):
                self.assertIs(is_search_tree(grown_tree(ranking, content)), True)

    def test_the_deepest_ones(self):
        self.assertIs(is_search_tree(grown_tree(tuple(range(24)), range(24))), True)
        self.assertIs(is_search_tree(deep_right(24)), True)
        self.assertIs(is_search_tree(deep_right(25)), False)

    def test_nearly_search_trees(self):
        for value in [
            ((), -1, ()), ((), 24, ()), ((), 10 ** 89, ()), ((), True, ()), ((), "1", ()), ((), None, ()),
            [(), 1, ()], ([], 1, ()), ((), 1, []), (((), 1, ()), 1, ()), ((), 1, ((), 1, ())), (((), 2, ()), 1, ()),
            ((), 2, ((), 1, ())), (((), 0, ((), 7, ())), 5, ()), ((), 5, (((), 3, ()), 8, ())),
            (((), 0, ((), 5, ())), 5, ()), ((), 5, (((), 5, ()), 8, ())), ((), 23, ((), 24, ())),
            (((), -1, ()), 0, ()), ((), 1), ((), 1, (), ()), ((),), ((), ()), (1,), OwnTuple(),
            (OwnTuple(), 1, ()), ((), OwnInteger(1), ()),
        ]:
            self.assertIs(is_search_tree(value), False, value)

    def test_values_of_no_such_kind(self):
        for value in STRANGE:
            self.assertIs(is_search_tree(value), type(value) is tuple and value == (), value)


if __name__ == "__main__":
    unittest.main()
