"""The functions of editions.py and edition_trees.py with wrong arguments, alone and together."""

import unittest

from argument_checks import ODD, ArgumentChecks, odd_but
from helpers import raised
from oneshape import edition_trees, editions, errors

BASE, ONE, OTHER = ((0, 1), (1, 1), (2, 5), (4, 7)), ((0, 1), (1, 2), (2, 5), (3, 9)), ((0, 3), (1, 1), (2, 5), (4, 7))
CLASHING = ((0, 3), (1, 1), (2, 5), (4, 8))
RANKS = (5, 40, 12, 33, 7)
STORES = ODD + [0, ((24, 1),), ((-1, 1),), ((0, 1), (0, 1)), ((1, 1), (0, 1)), ((0, True),), ((True, 0),), [(0, 1)],
                ([0, 1],), ((0,),), ((0, 1, 2),), ((0, 10 ** 9),), ((0, -10 ** 9),), ((0, None),), ((0, "1"),), (0, 1)]
PAPER = [(0, 0, "other"), (1, 23, "one")]


class EditionsArguments(ArgumentChecks, unittest.TestCase):
    functions = {
        editions.is_plain_store: "value", editions.fate: "base one other key", editions.clash_keys: "base one other",
        editions.put_as_one: "base one other", editions.settled: "base one other choices", editions.put_all: "base several",
        edition_trees.opened_keys: "ranking base one other", edition_trees.least_openings: "base one other",
        edition_trees.best_ranking: "base one other", edition_trees.is_edition_paper: "base one other value",
        edition_trees.shortest_paper: "base one other", edition_trees.fewest_entries: "base one other",
        edition_trees.paper_store: "base one other paper",
    }
    good = {"base": BASE, "one": ONE, "other": OTHER, "key": 23, "choices": (), "several": (ONE, OTHER, BASE),
            "ranking": RANKS, "paper": PAPER, "value": PAPER}
    fitting = {editions.settled: {"other": CLASHING, "choices": (None,)}}
    wrong = {
        "base": (errors.InvalidStore, STORES), "one": (errors.InvalidStore, STORES), "other": (errors.InvalidStore, STORES),
        "key": (errors.InvalidKey, odd_but() + [-1, 24, 25, (), (0,), 2.0, "a"]),
        "choices": (errors.InvalidChoices, odd_but((None,)) + [(), (8, 8), [8], (10 ** 9,), (-10 ** 9,), ("8",), 8, (8.0,)]),
        "several": (errors.InvalidStore, ODD + [(), [ONE], (ONE,) * 9, ONE, (ONE, None), (ONE, [OTHER]), (((24, 1),),),
                                                (((0, True),), ONE), 0]),
        "ranking": (errors.InvalidRanking, ODD + [0, (1, 1), tuple(range(25)), list(RANKS), (1.0,)]),
        "paper": (errors.InvalidPaper, ODD + [(), tuple(PAPER), PAPER[:1], PAPER[1:], PAPER[::-1], PAPER * 2,
                                              [(0, 0, "one"), (1, 23, "one")], [(0, 0, "other"), (1, 23, "kept")],
                                              [(0, 0, "other"), (1, 24, "one")], [(0, 0, "other"), [1, 23, "one"]], 0]),
    }
    own_errors = [
        (editions.put_as_one, (BASE, ONE, CLASHING), errors.Clash((4,))),
        (editions.put_all, (BASE, (ONE, CLASHING, ONE)), errors.Clash((4,))),
        (edition_trees.paper_store, (BASE, ONE, CLASHING,
                                     [(0, 0, "other"), (1, 3, "one"), (4, 4, "clash"), (5, 23, "alike")]), errors.Clash((4,))),
    ]
    with_lists = {"shortest_paper"}
    questions = 2

    def test_stores_are_those_of_the_ranking(self):
        for at in range(3):
            stores = [BASE, ONE, OTHER]
            stores[at] = ((5, 1),)
            self.check_error(edition_trees.opened_keys, [RANKS] + stores, errors.InvalidStore)
            self.assertIs(type(edition_trees.least_openings(*stores)), int)

    def test_choices_of_no_clash(self):
        for choices in odd_but() + [(None,), (8,), [], 0]:
            self.assertIs(type(raised(editions.settled, BASE, ONE, OTHER, choices)), errors.InvalidChoices)

    def test_without_a_ranking_keys_go_up_to_23(self):
        last = ((23, 999999999),)
        self.assertEqual(editions.put_as_one((), last, ()), last)
        self.assertEqual(editions.put_all((), (last,) * 8), last)
        self.assertEqual(edition_trees.shortest_paper((), last, ()), [(0, 23, "one")])
        self.assertEqual(edition_trees.paper_store((), (), last, [(0, 23, "other")]), last)


if __name__ == "__main__":
    unittest.main()
