"""Keys opened by three editions, and edition papers: points [28] and [29], facts G1, G3 and G4."""

import unittest
from itertools import permutations, product

from edition_samples import FATES, drawn_stores, fates_by_words, fates_stores, samples, worth_in
from helpers import OwnInteger, OwnString, OwnTuple, grown_tree, held_by, numbers, parts_by_top, raised, wide_rankings
from oneshape import errors
from oneshape.edition_trees import (
    best_ranking, fewest_entries, is_edition_paper, least_openings, opened_keys, paper_store, shortest_paper,
)
from oneshape.editions import clash_keys, is_plain_store, put_as_one
from oneshape.trees import is_ranking


def differ_in(stores, keys):
    """Whether each two of the three differ at some of the keys."""
    return all(any(worth_in(one, key) != worth_in(other, key) for key in keys)
               for one, other in ((stores[0], stores[1]), (stores[0], stores[2]), (stores[1], stores[2])))


def opened_by_words(ranking, stores):
    """The opened keys, by going through the stretches that are still to come."""
    held = {key for store in stores for key, _ in store}
    found, coming = [], [range(len(ranking))]
    while coming:
        row = coming.pop()
        if differ_in(stores, row):
            top = sorted(held & set(row), key=lambda key: ranking[key])[-1]
            found.append(top)
            coming += [range(row[0], top), range(top + 1, row[-1] + 1)]
    return tuple(sorted(found))


def opened_by_g3(ranking, stores):
    held = {key for store in stores for key, _ in store}
    parts = parts_by_top(grown_tree(ranking, held))
    return tuple(key for key in sorted(parts) if differ_in(stores, held_by(parts[key])))


def least_by_words(stores):
    """The keys counted by going along the keys that are not kept."""
    counted, passed = 0, set()
    for fate in fates_by_words(*stores):
        if fate == "clash" or fate != "kept" and passed - {fate}:
            counted, passed = counted + 1, set()
        elif fate != "kept":
            passed = {fate}
    return counted


class Opened(unittest.TestCase):
    def test_opened_keys(self):
        for at, stores in enumerate(samples()):
            for ranking in wide_rankings()[at % 7::3]:
                found = opened_keys(ranking, *stores)
                self.assertEqual(repr(found), repr(opened_by_words(ranking, stores)))
                self.assertEqual(found, opened_by_g3(ranking, stores))
                self.assertLessEqual(set(clash_keys(*stores)), set(found))
                self.assertGreaterEqual(len(found), least_openings(*stores))
                self.assertEqual(opened_keys(ranking, stores[0], stores[2], stores[1]), found)

    def test_opened_keys_of_few_ranks(self):
        for fates in product(FATES, repeat=3):
            stores = fates_stores(fates)
            for ranking in permutations((-1, 5, 10 ** 89)):
                self.assertEqual(opened_keys(ranking, *stores), opened_by_words(ranking, stores))
        self.assertEqual(opened_keys((), (), (), ()), ())
        self.assertEqual(opened_keys((4,), ((0, 1),), ((0, 2),), ()), (0,))
        self.assertEqual(opened_keys((4,), (), (), ()), ())

    def test_stores_are_those_of_the_ranking(self):
        for at in range(3):
            for ranking in ((), (4,), (4, 2)):
                stores = [()] * 3
                stores[at] = ((len(ranking), 0),)
                self.assertIs(type(raised(opened_keys, ranking, *stores)), errors.InvalidStore)


class Least(unittest.TestCase):
    def test_by_all_rankings_of_few_keys(self):
        for count in (1, 2, 3, 4):
            for fates in product(FATES, repeat=count):
                stores = fates_stores(fates)
                counts = [len(opened_keys(ranking, *stores)) for ranking in permutations(range(count))]
                self.assertEqual(repr(least_openings(*stores)), repr(min(counts)))
        for seed in range(120):
            stores = drawn_stores(seed, 6)
            counts = [len(opened_by_g3(ranking, stores)) for ranking in list(permutations(range(6)))[seed % 3::3]]
            self.assertLessEqual(least_openings(*stores), min(counts))

    def test_by_going_along_the_keys(self):
        for stores in samples():
            self.assertEqual(repr(least_openings(*stores)), repr(least_by_words(stores)))

    def test_best_ranking(self):
        for stores in samples():
            ranking = best_ranking(*stores)
            self.assertIs(is_ranking(ranking), True)
            self.assertEqual(len(ranking), 24)
            self.assertEqual(len(opened_keys(ranking, *stores)), least_openings(*stores))


def entry_fits(stores, low, high, word):
    """Whether the entry is one of an edition paper, by what the three have."""
    base, one, other = stores
    pairs = {"one": (base, other), "other": (base, one), "alike": (one, other)}
    if word == "clash":
        return low == high and fates_by_words(*stores)[low] == "clash"
    here, there = pairs[word]
    return all(worth_in(here, key) == worth_in(there, key) for key in range(low, high + 1))


def fewest_by_all(stores):
    """The fewest entries, by the fewest for so many keys from the first one on."""
    fits = {(low, high) for low in range(24) for high in range(low, 24)
            if any(entry_fits(stores, low, high, word) for word in ("one", "other", "alike", "clash"))}
    fewest = [0]
    for behind in range(1, 25):
        fewest.append(1 + min(fewest[low] for low in range(behind) if (low, behind - 1) in fits))
    return fewest[24]


def is_paper_by_words(stores, value):
    rows = [(low, high) for low, high, _ in value]
    keys = [key for low, high in rows for key in range(low, high + 1)]
    if keys != list(range(24)) or not all(low <= high for low, high in rows):
        return False
    return all(word in ("one", "other", "alike", "clash") and entry_fits(stores, low, high, word)
               for low, high, word in value)


def drawn_paper(stores, seed):
    """An edition paper with entries that are mostly shorter than need be."""
    draws = numbers(seed)
    paper, low = [], 0
    while low < 24:
        found = [(low, high, word) for high in range(low, min(24, low + 1 + next(draws) % 9))
                 for word in ("one", "other", "alike", "clash") if entry_fits(stores, low, high, word)]
        paper.append(found[next(draws) % len(found)])
        low = paper[-1][1] + 1
    return paper


class Papers(unittest.TestCase):
    def test_shortest_papers(self):
        for at, stores in enumerate(samples()):
            paper = shortest_paper(*stores)
            self.assertIs(type(paper), list)
            self.assertTrue(is_paper_by_words(stores, paper))
            self.assertIs(is_edition_paper(*stores, paper), True)
            self.assertEqual(repr(fewest_entries(*stores)), repr(len(paper)))
            if at % 4 == 0:
                self.assertEqual(len(paper), fewest_by_all(stores))

    def test_entries_and_openings(self):
        for stores in samples():
            entries, openings = fewest_entries(*stores), least_openings(*stores)
            if not clash_keys(*stores):
                self.assertGreaterEqual(entries, openings + 1)
            self.assertLessEqual(entries, 1 + 2 * openings)

    def test_no_entry_clash_exactly_if_there_is_no_clash(self):
        for stores in samples():
            words = [word for _, _, word in shortest_paper(*stores)]
            self.assertEqual(words.count("clash"), len(clash_keys(*stores)))

    def test_stores_of_papers(self):
        for seed, stores in enumerate(list(samples())[::3]):
            lot = clash_keys(*stores)
            for paper in [shortest_paper(*stores)] + [drawn_paper(stores, seed + more) for more in range(3)]:
                self.assertIs(is_edition_paper(*stores, paper), True)
                kept = repr(paper)
                if lot:
                    error = raised(paper_store, *stores, paper)
                    self.assertIs(type(error), errors.Clash)
                    self.assertEqual(repr(error.lot), repr(lot))
                else:
                    store = paper_store(*stores, paper)
                    self.assertIs(is_plain_store(store), True)
                    self.assertEqual(store, put_as_one(*stores))
                self.assertEqual(repr(paper), kept)

    def test_papers_that_are_nearly_so(self):
        for seed in range(45):
            stores = drawn_stores(seed, 24, seed % 2 == 0)
            for paper in (shortest_paper(*stores), drawn_paper(stores, seed)):
                for value in self.nearly(paper):
                    wanted = is_paper_by_words(stores, value)
                    self.assertIs(is_edition_paper(*stores, value), wanted, value)
                    error = raised(paper_store, *stores, value)
                    if not wanted:
                        self.assertIs(type(error), errors.InvalidPaper)

    def nearly(self, paper):
        """The paper with another bound or word, with entries exchanged, left out, twice, drawn together, parted."""
        found = [[], paper + [(24, 24, "one")], [(-1, -1, "one")] + paper]
        for at, (low, high, word) in enumerate(paper):
            ahead, behind = paper[:at], paper[at + 1:]
            found += [ahead + behind, ahead + [paper[at], paper[at]] + behind]
            found += [ahead + behind[:1] + [paper[at]] + behind[1:]]
            found += [ahead + [(low, high, other)] + behind for other in ("one", "other", "alike", "clash", "kept", "One", "")]
            found += [ahead + [(low + 1, high, word)] + behind, ahead + [(low, high - 1, word)] + behind,
                      ahead + [(low, high + 1, word)] + behind, ahead + [(low - 1, high, word)] + behind]
            if behind:
                found.append(ahead + [(low, behind[0][1], word)] + behind[1:])
                found.append(ahead + [(low, high + 1, word), (high + 2, behind[0][1], behind[0][2])] + behind[1:])
            for end in range(low, high):
                found.append(ahead + [(low, end, word), (end + 1, high, word)] + behind)
        return found

    def test_entries_of_other_kinds(self):
        for seed in range(9):
            stores = drawn_stores(seed)
            paper = shortest_paper(*stores)
            for value in (tuple(paper), None, {}, "", 0, [paper], [tuple(paper)], dict.fromkeys(paper)):
                self.assertIs(is_edition_paper(*stores, value), False)
                self.assertIs(type(raised(paper_store, *stores, value)), errors.InvalidPaper)
            for at, (low, high, word) in enumerate(paper):
                for entry in [[low, high, word], (low, high), (low, high, word, word), (low, high, None), None, (), 0,
                              (OwnInteger(low), high, word), OwnTuple(paper[at]), (low, high, OwnString(word)), word,
                              (low, float(high), word), (low, high, [word]), (low, (high,), word), (str(low), high, word)]:
                    value = paper[:at] + [entry] + paper[at + 1:]
                    self.assertIs(is_edition_paper(*stores, value), False, entry)
        self.assertIs(is_edition_paper((), (), (), [(False, 23, "one")]), False)
        self.assertIs(is_edition_paper((), (), (), [(0, True, "one"), (2, 23, "one")]), False)
        self.assertIs(is_edition_paper((), (), (), [(0, 0, "one"), (True, 23, "one")]), False)
        self.assertIs(is_edition_paper((), (), (), [(0, 22, "one")]), False)
        for word in ("one", "other", "alike"):
            self.assertIs(is_edition_paper((), (), (), [(0, 23, word)]), True)

    def test_each_list_is_new(self):
        for call in (lambda: shortest_paper((), (), ()), lambda: shortest_paper(((0, 1),), ((0, 2),), ((0, 3),))):
            kept = repr(call())
            call().clear()
            self.assertEqual(repr(call()), kept)


if __name__ == "__main__":
    unittest.main()
