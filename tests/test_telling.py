"""Contents whose trees tell all of a ranking: point [14], fact B7."""

import unittest
from itertools import combinations, permutations

from helpers import grown_tree, lots, numbers, raised, shuffled, small_rankings, some_lots, wide_rankings
from oneshape.errors import TooMany
from oneshape.shapes import fewest_contents, rank_orders, tells_all, telling_contents
from oneshape.trees import above

SPREAD = [(9,), (-3, 10 ** 89, -4), (7, 5, 6, -10 ** 89), (100, -100, 50, -50, 0)]


def told_by_b7(ranking, contents):
    falling = sorted(range(len(ranking)), key=lambda key: -ranking[key])
    return all(any(key in content and other in content and key in above(ranking, content, other)
                   for content in contents)
               for key, other in zip(falling, falling[1:]))


class Likes:
    """For all rankings 0, 1, .. of so many keys: which of them have the same tree of a content, as bits."""

    def __init__(self, size):
        self.rankings = list(permutations(range(size)))
        self.contents = lots(size)
        self.alike = {}
        for content in self.contents:
            trees = [grown_tree(ranking, content) for ranking in self.rankings]
            bits = {}
            for at, tree in enumerate(trees):
                bits[tree] = bits.get(tree, 0) | 1 << at
            for at, ranking in enumerate(self.rankings):
                self.alike[ranking, content] = bits[trees[at]]

    def tells(self, ranking, contents):
        left = (1 << len(self.rankings)) - 1
        for content in contents:
            left &= self.alike[ranking, content]
        return left.bit_count() == 1

    def fewest(self, ranking):
        found, many = {(1 << len(self.rankings)) - 1}, 0
        while all(left.bit_count() > 1 for left in found):
            found = {left & self.alike[ranking, content] for left in found for content in self.contents}
            many += 1
        return many


class TellsAll(unittest.TestCase):
    def check(self, ranking, contents, wanted):
        self.assertIs(tells_all(ranking, contents), wanted, (ranking, contents))
        self.assertIs(told_by_b7(ranking, contents), wanted)

    def test_by_all_rankings_of_few_keys(self):
        for size in range(5):
            likes = Likes(size)
            for ranking in likes.rankings:
                for many in range(3):
                    for contents in combinations(likes.contents, many):
                        self.check(ranking, contents, likes.tells(ranking, contents))

    def test_by_all_rankings_of_five_keys(self):
        likes = Likes(5)
        draws = numbers(81)
        large = [content for content in likes.contents if len(content) > 2]
        told = 0
        for ranking in likes.rankings:
            for many in range(9):
                contents = tuple(large[next(draws) % len(large)] for _ in range(many))
                wanted = likes.tells(ranking, contents)
                self.check(ranking, contents, wanted)
                told += wanted
        self.assertGreater(told, 20)

    def test_other_ranks(self):
        for ranking in SPREAD:
            least = tuple(sorted(ranking).index(rank) for rank in ranking)
            for many in range(3):
                for contents in combinations(lots(len(ranking)), many):
                    self.assertIs(tells_all(ranking, contents), tells_all(least, contents))

    def test_without_contents_and_twice_the_same(self):
        self.assertIs(tells_all((), ()), True)
        self.assertIs(tells_all((), ((),)), True)
        self.assertIs(tells_all((4,), ()), True)
        self.assertIs(tells_all((4, 5), ()), False)
        self.assertIs(tells_all((4, 5), ((0,), (1,), (), ())), False)
        self.assertIs(tells_all((4, 5), ((0, 1), (0, 1))), True)
        self.assertIs(tells_all((4, 6, 5), ((0, 1, 2),) * 8), False)
        self.assertIs(tells_all((4, 6, 5), ((0, 1, 2), (0, 2))), True)

    def test_24_keys(self):
        row = tuple(range(24))
        self.assertIs(tells_all(row, (row,)), True)
        self.assertIs(tells_all(row, (row[1:],)), False)
        self.assertIs(tells_all(row, (row[:13], row[12:])), True)
        self.assertIs(tells_all(row, (row[:13], row[13:])), False)
        for seed, ranking in enumerate(wide_rankings()):
            for contents in [tuple(some_lots(82 + seed, 6)), (row,), tuple(some_lots(90 + seed, 3))]:
                self.check(ranking, contents, told_by_b7(ranking, contents))


class Fewest(unittest.TestCase):
    def check_contents(self, ranking, many):
        contents = telling_contents(ranking)
        self.assertIs(type(contents), tuple)
        self.assertEqual(len(contents), many)
        for content in contents:
            self.assertIn(content, lots(len(ranking)))
            self.assertTrue(all(type(key) is int for key in content))
        self.assertIs(tells_all(ranking, contents), True)
        self.assertEqual(repr(telling_contents(ranking)), repr(contents))
        return contents

    def test_by_all_rankings_of_up_to_five_keys(self):
        for size in range(6):
            likes = Likes(size)
            for ranking in likes.rankings:
                many = likes.fewest(ranking)
                self.assertEqual(repr(fewest_contents(ranking)), repr(many))
                self.assertTrue(likes.tells(ranking, self.check_contents(ranking, many)))

    def test_bounds_of_b7(self):
        for ranking in small_rankings(5) + [shuffled(range(size), seed) for size in (6, 7) for seed in range(15)]:
            many = fewest_contents(ranking)
            if len(ranking) < 2:
                self.assertEqual(many, 0)
                continue
            self.assertTrue(1 <= many < len(ranking))
            whole = grown_tree(ranking, range(len(ranking)))
            self.assertEqual(many == 1, rank_orders(whole) == 1)
            self.check_contents(ranking, many)

    def told_steps(self, ranking):
        """The lots of steps that some content tells, none of which is within another one."""
        falling = sorted(range(len(ranking)), key=lambda key: -ranking[key])
        steps = list(zip(falling, falling[1:]))
        told = {frozenset(at for at, (key, other) in enumerate(steps)
                          if key in content and other in content and key in above(ranking, content, other))
                for content in lots(len(ranking))}
        return [some for some in told if not any(some < others for others in told)]

    def test_six_and_seven_keys_by_the_steps_told(self):
        for size in (6, 7):
            for seed in range(12):
                ranking = shuffled(range(-3, size - 3), 100 + seed)
                told, many = self.told_steps(ranking), 1
                while not any(len(frozenset().union(*some)) == size - 1 for some in combinations(told, many)):
                    many += 1
                self.assertEqual(fewest_contents(ranking), many)
                self.check_contents(ranking, many)

    def test_ends(self):
        for function in (fewest_contents, telling_contents):
            for size in (8, 9, 24):
                for ranking in (tuple(range(size)), shuffled(range(size), 5)):
                    error = raised(function, ranking)
                    self.assertIs(type(error), TooMany)
                    self.assertEqual(repr(error.count), "7")
        self.assertEqual(repr([fewest_contents(()), fewest_contents((10 ** 89,))]), "[0, 0]")
        self.assertEqual(repr([telling_contents(()), telling_contents((10 ** 89,))]), "[(), ()]")
        self.assertEqual(fewest_contents(tuple(range(7))), 1)
        self.assertEqual(fewest_contents((-1, 10 ** 89)), 1)


if __name__ == "__main__":
    unittest.main()
