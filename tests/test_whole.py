"""What several modules tell of the same: the facts across the whole program."""

import unittest

from edition_samples import samples, worth_in
from helpers import held_by, lots, raised, shuffled, wide_rankings
from live_samples import drawn_deed, drawn_rankings, draws_for, start_for
from oneshape import (
    ancestors, console, edition_trees, editions, errors, live, looks, page_looks, pages, paper_texts, parted, plans, reach,
    shapes, trees,
)
from text_samples import LETTERS


class Stores(unittest.TestCase):
    def test_where_two_stores_differ(self):
        ranking, levels = wide_rankings()[3], shuffled([0] * 12 + [1] * 6 + [2, 2, 2, 3, 3, 4], 5)
        for base, one, _ in samples():
            lot = looks.differing(ranking, base, one)
            self.assertEqual(page_looks.page_differing(levels, base, one), lot)
            self.assertEqual(page_looks.walk_lot(levels, page_looks.page_walk(levels, base, one)), lot)
            self.assertIs(paper_texts.is_paper(("differ", base, one, lot)), True)
            self.assertEqual(paper_texts.paper_told(paper_texts.paper_text(("differ", base, one, lot)))[3], lot)
            self.assertEqual([key for key in range(24) if editions.fate(base, one, base, key) == "one"], list(lot))
            store = live.Live(ranking, base)
            if lot:
                store.take_in(one)
            self.assertEqual([store.store, store.changed()], [one, lot])

    def test_three_put_together(self):
        ranking = wide_rankings()[5]
        for base, one, other in samples():
            row = (((), base), ((0,), one), ((0,), other))
            store = live.Live(ranking, base)
            if one != base:
                store.take_in(one)
            lot = editions.clash_keys(base, one, other)
            calls = [lambda: editions.put_as_one(base, one, other), lambda: ancestors.joined_store(row, 1, 2),
                     lambda: ancestors.grown(row, 1, 2)[3][1], lambda: editions.put_all(base, (one, other)),
                     lambda: edition_trees.paper_store(base, one, other, edition_trees.shortest_paper(base, one, other))]
            if lot:
                self.assertIs(paper_texts.is_paper(("clash", base, one, other, lot)), True)
                for call in calls + [lambda: store.take_in(other)]:
                    error = raised(call)
                    self.assertEqual((type(error), error.lot), (errors.Clash, lot))
                self.assertEqual(editions.settled(base, one, other, tuple(worth_in(one, key) for key in lot)),
                                 editions.settled(base, other, one, tuple(worth_in(one, key) for key in lot)))
            else:
                wanted = editions.settled(base, one, other, ())
                self.assertEqual([call() for call in calls], [wanted] * 5)
                self.assertEqual(raised(store.take_in, other) is None, wanted != one)
                self.assertEqual(store.store, wanted)

    def test_stores_that_are_none_are_so_everywhere(self):
        ranking, levels = tuple(range(24)), (0,) * 24
        for value in [None, [], ((24, 0),), ((0, True),), ((1, 0), (0, 0)), ((0, 10 ** 9),), ((0, 0), (0, 0)), ((False, 0),)]:
            self.assertIs(looks.is_store(ranking, value), False)
            self.assertIs(editions.is_plain_store(value), False)
            self.assertIs(ancestors.is_editions((((), value),)), False)
            for call in (lambda: looks.differing(ranking, value, ()), lambda: page_looks.page_walk(levels, (), value),
                         lambda: editions.clash_keys((), value, ()), lambda: live.Live(ranking, value),
                         lambda: live.Live(ranking, ()).take_in(value), lambda: paper_texts.store_text(value),
                         lambda: edition_trees.opened_keys(ranking, (), (), value), lambda: live.replay(ranking, value, [])):
                self.assertIs(type(raised(call)), errors.InvalidStore, value)


class Trees(unittest.TestCase):
    def test_opened_keys_of_three_are_opened_of_two(self):
        for at, (base, one, other) in enumerate(samples()):
            ranking = wide_rankings()[at % 7]
            contents = [tuple(key for key, _ in store) for store in (base, one, other)]
            whole = parted.either_tree(ranking, trees.tree_of(ranking, contents[0]), parted.either_tree(
                ranking, trees.tree_of(ranking, contents[1]), trees.tree_of(ranking, contents[2])))
            differing = [looks.differing(ranking, base, one), looks.differing(ranking, base, other),
                         looks.differing(ranking, one, other)]
            wanted = [part[1] for part in reach.parts_of(ranking, whole)
                      if all(set(held_by(part)) & set(lot) for lot in differing)]
            self.assertEqual(edition_trees.opened_keys(ranking, base, one, other), tuple(wanted))

    def test_live_stores_and_consoles_tell_the_same_trees(self):
        for seed, ranking, bound in drawn_rankings():
            draws, told = draws_for(seed), console.Console()
            start = start_for(ranking, None, draws)
            one = live.Live(ranking, ())
            told.execute("open a " + paper_texts.ranking_text(ranking))
            for _ in range(12):
                deed = drawn_deed(ranking, start, one.store, draws)
                if raised(getattr(one, deed[0]), *deed[1:]) is None:
                    told.execute(command_of(deed))
                content = tuple(key for key, _ in one.store)
                tree = trees.tree_of(ranking, content)
                self.assertEqual(one.tree(), tree)
                self.assertEqual(told.execute("tree"), trees.tree_text(tree))
                self.assertEqual(trees.tree_told(told.execute("tree")), tree)
                self.assertEqual(one.height(), reach.longest_way(ranking, content))
                self.assertIs(shapes.is_rank_order(tree, tuple(sorted(content, key=lambda key: -ranking[key]))), True)
                for key in content:
                    paper = ("way", trees.least_ranking(ranking), content, key, one.way(key))
                    self.assertIs(paper_texts.is_paper(paper), True)
                    self.assertEqual(told.execute("way " + LETTERS[key]),
                                     paper_texts.paper_text(paper).split(";")[-1])


def command_of(deed):
    if deed[0] == "take_in":
        return "in " + (paper_texts.store_text(deed[1]) or "*")
    words = [LETTERS[deed[1]]] + [LETTERS[part] if deed[0] == "cut" else str(part) for part in deed[2:]]
    return " ".join([deed[0]] + words)


class Looks(unittest.TestCase):
    def test_page_walks_are_the_way_of_a_plan(self):
        """By F3 no plan needs fewer looks for all lots, and the page stretches tell all lots apart."""
        for levels in [(0,), (0, 0), (0, 1, 0), (0, 1, 0, 2), (1, 0, 0, 1, 0), (0, 2, 0, 1, 0, 0)]:
            count = len(levels)
            views = tuple(page_looks.page_stretches(levels))
            for most in range(4):
                self.assertIsNone(plans.unparted(count, most, views))
                for lot in [lot for lot in lots(count) if len(lot) <= most]:
                    walk = page_looks.walk_of(levels, lot)
                    self.assertIn(lot, plans.lots_left(count, most, tuple(walk)))
                self.assertLessEqual(plans.fewest_looks(count, most, views),
                                     page_looks.most_looks(levels, max(1, most)))

    def test_pages_and_page_stretches(self):
        """The keys of each page of all keys that are more than one are a page stretch."""
        for levels in [(), (0,), (0, 1, 0), (0, 1, 0, 2), (1, 0, 0, 1, 0), (0, 2, 0, 1, 0, 0), shuffled([0] * 20 + [1, 2, 3, 4], 1)]:
            stretches = page_looks.page_stretches(levels)
            for row in pages.page_lists(levels, tuple(range(len(levels)))):
                for page in row:
                    keys = keys_in(page)
                    if keys:
                        self.assertIn((keys[0], keys[-1]), stretches)


def keys_in(page):
    return [key for part in page for key in ([part] if type(part) is int else keys_in(part))]


if __name__ == "__main__":
    unittest.main()
