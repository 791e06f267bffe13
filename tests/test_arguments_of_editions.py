"""The functions of editions.py, edition_trees.py, ancestors.py and paper_texts.py with wrong arguments."""

import unittest

from argument_checks import ODD, ArgumentChecks, odd_but
from helpers import raised
from oneshape import ancestors, edition_trees, editions, errors, paper_texts

BASE, ONE, OTHER = ((0, 1), (1, 1), (2, 5), (4, 7)), ((0, 1), (1, 2), (2, 5), (3, 9)), ((0, 3), (1, 1), (2, 5), (4, 7))
CLASHING = ((0, 3), (1, 1), (2, 5), (4, 8))
RANKS = (5, 40, 12, 33, 7)
STORES = ODD + [0, ((24, 1),), ((-1, 1),), ((0, 1), (0, 1)), ((1, 1), (0, 1)), ((0, True),), ((True, 0),), [(0, 1)],
                ([0, 1],), ((0,),), ((0, 1, 2),), ((0, 10 ** 9),), ((0, -10 ** 9),), ((0, None),), ((0, "1"),), (0, 1)]
PAPER = [(0, 0, "other"), (1, 23, "one")]


class EditionsArguments(ArgumentChecks, unittest.TestCase):
    functions = {
        editions.is_plain_store: "value", editions.fate: "base one other key", editions.clash_keys: "base one other",
        editions.put_as_one: "base one other", editions.settled: "base one other choices", editions.put_all: "base several",
        edition_trees.opened_keys: "ranking base one other", edition_trees.least_openings: "base one other",
        edition_trees.best_ranking: "base one other", edition_trees.is_edition_paper: "base one other value",
        edition_trees.shortest_paper: "base one other", edition_trees.fewest_entries: "base one other",
        edition_trees.paper_store: "base one other paper",
    }
    good = {"base": BASE, "one": ONE, "other": OTHER, "key": 23, "choices": (), "several": (ONE, OTHER, BASE),
            "ranking": RANKS, "paper": PAPER, "value": PAPER}
    fitting = {editions.settled: {"other": CLASHING, "choices": (None,)}}
    wrong = {
        "base": (errors.InvalidStore, STORES), "one": (errors.InvalidStore, STORES), "other": (errors.InvalidStore, STORES),
        "key": (errors.InvalidKey, odd_but() + [-1, 24, 25, (), (0,), 2.0, "a"]),
        "choices": (errors.InvalidChoices, odd_but((None,)) + [(), (8, 8), [8], (10 ** 9,), (-10 ** 9,), ("8",), 8, (8.0,)]),
        "several": (errors.InvalidStore, ODD + [(), [ONE], (ONE,) * 9, ONE, (ONE, None), (ONE, [OTHER]), (((24, 1),),),
                                                (((0, True),), ONE), 0]),
        "ranking": (errors.InvalidRanking, ODD + [0, (1, 1), tuple(range(25)), list(RANKS), (1.0,)]),
        "paper": (errors.InvalidPaper, ODD + [(), tuple(PAPER), PAPER[:1], PAPER[1:], PAPER[::-1], PAPER * 2,
                                              [(0, 0, "one"), (1, 23, "one")], [(0, 0, "other"), (1, 23, "kept")],
                                              [(0, 0, "other"), (1, 24, "one")], [(0, 0, "other"), [1, 23, "one"]], 0]),
    }
    own_errors = [
        (editions.put_as_one, (BASE, ONE, CLASHING), errors.Clash((4,))),
        (editions.put_all, (BASE, (ONE, CLASHING, ONE)), errors.Clash((4,))),
        (edition_trees.paper_store, (BASE, ONE, CLASHING,
                                     [(0, 0, "other"), (1, 3, "one"), (4, 4, "clash"), (5, 23, "alike")]), errors.Clash((4,))),
    ]
    with_lists = {"shortest_paper"}
    questions = 2

    def test_stores_are_those_of_the_ranking(self):
        for at in range(3):
            stores = [BASE, ONE, OTHER]
            stores[at] = ((5, 1),)
            self.check_error(edition_trees.opened_keys, [RANKS] + stores, errors.InvalidStore)
            self.assertIs(type(edition_trees.least_openings(*stores)), int)

    def test_choices_of_no_clash(self):
        for choices in odd_but() + [(None,), (8,), [], 0]:
            self.assertIs(type(raised(editions.settled, BASE, ONE, OTHER, choices)), errors.InvalidChoices)

    def test_without_a_ranking_keys_go_up_to_23(self):
        last = ((23, 999999999),)
        self.assertEqual(editions.put_as_one((), last, ()), last)
        self.assertEqual(editions.put_all((), (last,) * 8), last)
        self.assertEqual(edition_trees.shortest_paper((), last, ()), [(0, 23, "one")])
        self.assertEqual(edition_trees.paper_store((), (), last, [(0, 23, "other")]), last)


ROW = (((), BASE), ((0,), ONE), ((0,), OTHER), ((1, 2), ONE))
CLASH_ROW = (((), BASE), ((0,), ONE), ((0,), CLASHING), ((1, 2), ONE), ((1, 2), BASE), ((0,), ()), ((0,), ()), ((0,), BASE))
EDITIONS = odd_but() + [(), [ROW], list(ROW), 0, (((0,), BASE),), (((), BASE), ((), ONE)), ROW + (((4,), ONE),),
                        ROW + (((1, 0), ONE),), ROW + (((1,), ((24, 1),)),), ROW + (((1,), ONE, ()),), ROW + ([(1,), ONE],),
                        ROW * 3, (((), BASE),) + (((0,), BASE),) * 8]
INDEXES = odd_but() + [-1, 5, 7, 8, (), (0,), 2.0, "2", [0]]
KEYS = odd_but() + [-1, 24, (), (0,), 2.0, "a"]


class AncestorsArguments(ArgumentChecks, unittest.TestCase):
    functions = {
        ancestors.is_editions: "value", ancestors.elders: "editions edition",
        ancestors.nearest: "editions edition other_edition", ancestors.base_of: "editions edition other_edition",
        ancestors.sequences: "editions", ancestors.joined_store: "editions edition other_edition",
        ancestors.grown: "editions edition other_edition", ancestors.tellers: "editions edition key",
    }
    good = {"editions": ROW, "edition": 1, "other_edition": 2, "key": 4, "value": ROW}
    wrong = {
        "editions": (errors.InvalidEditions, EDITIONS), "edition": (errors.InvalidEdition, INDEXES),
        "other_edition": (errors.InvalidEdition, INDEXES), "key": (errors.InvalidKey, KEYS),
    }
    own_errors = [
        (ancestors.base_of, (ROW + (((1, 2), ()),), 3, 4), errors.NotOne((1, 2))),
        (ancestors.joined_store, (ROW + (((1, 2), ()),), 3, 4), errors.NotOne((1, 2))),
        (ancestors.joined_store, (ROW[:2] + (((0,), CLASHING),), 1, 2), errors.Clash((4,))),
        (ancestors.grown, (ROW[:2] + (((0,), CLASHING),), 2, 1), errors.Clash((4,))),
        (ancestors.grown, (ROW + (((1, 2), ()),), 4, 3), errors.NotOne((1, 2))),
    ]
    with_lists = set()
    questions = 1

    def test_errors_of_eight_editions(self):
        for one, other, wanted in [(3, 4, errors.NotOne), (1, 2, errors.Clash), (1, 7, errors.TooMany), (0, 0, errors.TooMany),
                                   (3, 8, errors.InvalidEdition), (None, 8, errors.InvalidEdition)]:
            self.check_error(ancestors.grown, [CLASH_ROW, one, other], wanted)
        self.assertEqual(raised(ancestors.grown, CLASH_ROW, 1, 7).count, 8)

    def test_wrong_editions_are_told_by_their_index(self):
        for value, index in [((), 0), (list(ROW), 0), (None, 0), (ROW + (((4,), ONE),), 4), (ROW * 3, 4),
                             ((((), BASE),) + (((0,), BASE),) * 8, 8), ((((), BASE), ((), ONE)), 1)]:
            for function in (ancestors.sequences, lambda editions: ancestors.elders(editions, None)):
                self.assertEqual(repr(raised(function, value).index), repr(index))

    def test_two_indexes_may_be_the_same(self):
        for edition in range(4):
            self.assertEqual(ancestors.nearest(ROW, edition, edition), (edition,))
            self.assertEqual(ancestors.grown(ROW, edition, edition)[4], ((edition,), ROW[edition][1]))


WAY = ("way", (0, 4, 2, 3, 1), (0, 1, 2), 2, (1, 2))
NO_TEXTS = [value for value in ODD if type(value) is not str] + [0, (), ("a",), b"a", ["a"]]


class PaperTextsArguments(ArgumentChecks, unittest.TestCase):
    functions = {
        paper_texts.ranking_text: "ranking", paper_texts.store_text: "store", paper_texts.ranking_told: "text",
        paper_texts.store_told: "text", paper_texts.is_paper: "value", paper_texts.paper_text: "value",
        paper_texts.paper_told: "text",
    }
    good = {"ranking": RANKS, "store": BASE, "text": "", "value": WAY}
    fitting = {paper_texts.paper_told: {"text": "d;a0;a1;a"}}
    wrong = {
        "ranking": (errors.InvalidRanking, ODD + [0, (1, 1), tuple(range(25)), list(RANKS), (1.0,)]),
        "store": (errors.InvalidStore, STORES),
        "text": (errors.InvalidText, NO_TEXTS + ["y", "A", " ", "a ", "*", ";", "\n", "aa", "b."]),
        (paper_texts.paper_text, "value"): (errors.InvalidPaper, ODD + [(), list(WAY), WAY[:4], WAY + ((),), 0, "w;a;a;a;a"]),
    }
    own_errors = [
        (paper_texts.ranking_told, ("ac",), errors.InvalidText(2)), (paper_texts.store_told, ("b1.a2",), errors.InvalidText(3)),
        (paper_texts.paper_told, ("c;;;;",), errors.InvalidText(5)), (paper_texts.paper_told, ("w;ba;abc;c;b",), errors.NotShown(0)),
        (paper_texts.paper_told, ("w;ba;a;b;b",), errors.NotShown(1)), (paper_texts.paper_told, ("w;ba;ab;b;a",), errors.NotShown(2)),
        (paper_texts.paper_told, ("d;;;a",), errors.NotShown(3)), (paper_texts.paper_told, ("c;;;;a",), errors.NotShown(3)),
    ]
    with_lists = set()
    questions = 1


if __name__ == "__main__":
    unittest.main()
