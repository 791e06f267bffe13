"""Texts of rankings, stores and papers: point [35], facts K1 and K2."""

import unittest
from itertools import product

from argument_checks import ODD
from edition_samples import fates_by_words, three_stores, worth_in
from helpers import OwnInteger, OwnString, OwnTuple, grown_tree, numbers, raised, small_rankings, some_lots
from live_samples import way_by_words
from oneshape import errors
from oneshape.editions import is_plain_store, put_as_one
from oneshape.paper_texts import (
    is_paper, paper_text, paper_told, ranking_text, ranking_told, store_text, store_told,
)
from oneshape.trees import is_ranking, least_ranking, way
from text_samples import (
    LETTERS, drawn_plain_stores, index_of, is_form, letters_by_words, nearly_texts, ranking_by_words, some_rankings,
    store_by_words,
)

GREAT = 999999999


def way_papers():
    found = []
    for ranking in small_rankings(3) + [least_ranking(ranking) for ranking in some_rankings()]:
        for content in some_lots(len(ranking), 4):
            content = tuple(key for key in content if key < len(ranking))
            tree = grown_tree(ranking, content)
            found += [("way", ranking, content, key, way(ranking, tree, key)) for key in content[:3] + content[-2:]]
    return found


def unlike_keys(store, other):
    return tuple(key for key in range(24) if worth_in(store, key) != worth_in(other, key))


def clashing(base, one, other):
    return tuple(key for key, fate in enumerate(fates_by_words(base, one, other)) if fate == "clash")


def store_samples():
    return list(three_stores(1)) + list(three_stores(2))[::11] + [drawn_plain_stores(seed) for seed in range(12)]


def differ_papers():
    return [("differ", base, one, unlike_keys(base, one)) for base, one, _ in store_samples()]


def clash_papers():
    found = [("clash", *stores, clashing(*stores)) for stores in store_samples()]
    return [paper for paper in found if paper[-1]]


def text_by_words(paper):
    if paper[0] == "way":
        return ";".join(["w", ranking_by_words(paper[1]), letters_by_words(paper[2]), LETTERS[paper[3]],
                         letters_by_words(paper[4])])
    parts = [store_by_words(store) for store in paper[1:-1]] + [letters_by_words(paper[-1])]
    return ";".join([paper[0][0]] + parts)


class Texts(unittest.TestCase):
    def check_text(self, function, kind, text, again):
        """The text is told back, or InvalidText tells the index."""
        index = index_of(kind, text)
        if index is None:
            self.assertEqual(again(function(text)), text)
        else:
            error = raised(function, text)
            self.assertIs(type(error), errors.InvalidText, text)
            self.assertEqual(repr(error.index), repr(index), text)

    def test_rankings(self):
        for ranking in some_rankings() + small_rankings(4):
            text = ranking_text(ranking)
            self.assertEqual(repr(text), repr(ranking_by_words(ranking)))
            told = ranking_told(text)
            self.assertIs(is_ranking(told), True)
            self.assertEqual(repr(told), repr(least_ranking(ranking)))
            self.assertEqual(ranking_text(least_ranking(ranking)), text)

    def test_texts_that_are_nearly_rankings(self):
        for ranking in some_rankings():
            for text in nearly_texts(ranking_by_words(ranking)):
                self.check_text(ranking_told, "ranking", text, ranking_text)
        for size in range(4):
            for letters in product("abcdy;", repeat=size):
                self.check_text(ranking_told, "ranking", "".join(letters), ranking_text)
        for text in ["y", "ay", "A", "a b", " a", "a ", "ba\n", "x" + LETTERS[:23] + "x", LETTERS, LETTERS[::-1],
                     LETTERS + "y", "a" * 20000, LETTERS * 800, "xw", "b", "*", "-", "a1"]:
            self.check_text(ranking_told, "ranking", text, ranking_text)

    def test_stores(self):
        for stores in store_samples():
            for store in stores:
                text = store_text(store)
                self.assertEqual(repr(text), repr(store_by_words(store)))
                self.assertEqual(repr(store_told(text)), repr(store))
        for store in [(), ((0, 0),), ((23, -GREAT),), ((0, GREAT), (23, GREAT)), tuple((key, -GREAT) for key in range(24))]:
            self.assertEqual(store_told(store_text(store)), store)

    def test_texts_that_are_nearly_stores(self):
        for store in [(), ((0, 0),), ((1, 7), (3, -2)), ((0, 10), (22, -GREAT), (23, 5)), ((23, GREAT),)]:
            for text in nearly_texts(store_by_words(store)):
                self.check_text(store_told, "store", text, store_text)
        for size in range(6):
            for signs in product("ax0-1.", repeat=size):
                self.check_text(store_told, "store", "".join(signs), store_text)
        for text in ["a00", "a01", "a-0", "a-", "a--1", "a+1", "a1234567890", "a-1234567890", "a123456789.b", "x1.", "x1.x1",
                     "a1.a1", "b1.a1", "a1.b", "a1..b1", ".a1", "a1.", "y1", "a1.y1", "A1", "a 1", "a1 ", "a1;b1", "1", "-",
                     "a1.b2.c3.d4.c5", "a1\n", "a" * 20000, "a1." * 5000, "a" + "9" * 19999, "*", "a0.", "a0.x0.",
                     ".".join(letter + "0" for letter in LETTERS) + "."]:
            self.check_text(store_told, "store", text, store_text)

    def test_values_that_are_no_strings(self):
        for function in (ranking_told, store_told, paper_told):
            for value in [value for value in ODD if type(value) is not str] + [b"a", 0, OwnString("a"), OwnString(""), {}]:
                error = raised(function, value)
                self.assertIs(type(error), errors.InvalidText, value)
                self.assertEqual(repr(error.index), "0")

    def test_stores_and_rankings_that_are_none(self):
        for value in [None, [], ((24, 0),), ((0, True),), ((0, GREAT + 1),), "a0", ((1, 0), (0, 0)), 0]:
            self.assertIs(type(raised(store_text, value)), errors.InvalidStore, value)
        for value in [None, [], (1, 1), (True,), "ab", tuple(range(25)), 0]:
            self.assertIs(type(raised(ranking_text, value)), errors.InvalidRanking, value)


class Papers(unittest.TestCase):
    def test_papers_and_their_texts(self):
        papers = way_papers() + differ_papers() + clash_papers()
        self.assertGreater(min(len(way_papers()), len(clash_papers())), 30)
        for paper in papers:
            self.assertIs(is_paper(paper), True, paper)
            text = paper_text(paper)
            self.assertEqual(repr(text), repr(text_by_words(paper)))
            self.assertEqual(repr(paper_told(text)), repr(paper))

    def test_ways_are_those_of_the_words(self):
        for _, ranking, content, key, keys in way_papers():
            store = tuple((member, 0) for member in content)
            self.assertEqual(keys, way_by_words(ranking, store, key))

    def test_papers_that_are_nearly_so(self):
        for paper in (way_papers()[::7] + differ_papers()[::5] + clash_papers()[::3]):
            for at in range(len(paper)):
                part = paper[at]
                tries = [None, True, 0, "", (), [], list(paper), OwnTuple(paper), (None,), "way", "differ", "clash", (0, 0)]
                tries += [list(part), OwnTuple(part), part + (23,), part[:-1], part[::-1]] if type(part) is tuple else []
                tries += [OwnString(part), part + "s", part[:1]] if type(part) is str else []
                tries += [OwnInteger(part), (part,), part + 1, float(part)] if type(part) is int else []
                for other in tries:
                    value = paper[:at] + (other,) + paper[at + 1:]
                    wanted = type(other) is type(part) and self.is_paper_by_words(value)
                    self.assertIs(is_paper(value), wanted, value)
                    if not wanted:
                        self.assertIs(type(raised(paper_text, value)), errors.InvalidPaper, value)
            for value in (list(paper), paper[:-1], paper + ((),), (paper,), OwnTuple(paper), paper[1:], paper[:1]):
                self.assertIs(is_paper(value), False, value)
                self.assertIs(type(raised(paper_text, value)), errors.InvalidPaper)

    def is_paper_by_words(self, value):
        """For values whose parts have the right kinds."""
        if value[0] == "way" and len(value) == 5:
            _, ranking, content, key, keys = value
            if not is_ranking(ranking) or sorted(ranking) != list(range(len(ranking))) or not self.is_lot(content, ranking):
                return False
            if type(key) is not int or key not in content or any(type(passed) is not int for passed in keys):
                return False
            return keys == way_by_words(ranking, tuple((member, 0) for member in content), key)
        if not all(is_plain_store(store) for store in value[1:-1]):
            return False
        if value[0] == "differ" and len(value) == 4:
            return self.is_lot(value[3], range(24)) and value[3] == unlike_keys(*value[1:3])
        return value[0] == "clash" and len(value) == 5 and value[4] != () and value[4] == clashing(*value[1:4])

    def is_lot(self, value, row):
        return all(type(key) is int and 0 <= key < len(row) for key in value) and sorted(set(value)) == list(value)

    def test_each_clause(self):
        ranks = (0, 4, 2, 3, 1)
        self.assertIs(is_paper(("way", ranks, (0, 1, 2), 2, (1, 2))), True)
        for value in [("way", (5, 40, 12, 33, 7), (0, 1, 2), 2, (1, 2)), ("way", ranks, (0, 1), 2, (1, 2)),
                      ("way", ranks, (0, 1, 5), 1, (1,)), ("way", ranks, (0, 1, 2), 2, (2,)), ("way", ranks, (0, 1, 2), 2, (2, 1)),
                      ("way", ranks, (0, 1, 2), 2, [1, 2]), ("way", ranks, (0, 1, 2), 2, (True, 2)),
                      ("way", ranks, (0, 1, 2), True, (1,)), ("way", ranks, (0, True, 2), 2, (1, 2)), ("way", (), (), 0, ()),
                      ("way", (0,), (), 0, ()), ("way", (False,), (0,), 0, (0,)), ("way", (1, 2), (0,), 0, (0,)),
                      ("differ", (), (), (0,)), ("differ", (), ((0, 1),), ()), ("differ", (), ((1, 1),), (True,)),
                      ("differ", (), ((0, 1),), (0, 1)), ("differ", ((24, 1),), (), (24,)), ("differ", (), ((0, True),), (0,)),
                      ("clash", (), (), (), ()), ("clash", (), ((0, 1),), ((0, 1),), (0,)), ("clash", (), ((0, 1),), ((0, 2),), ()),
                      ("clash", (), ((1, 1),), ((1, 2),), (True,)), ("clash", (), ((1, 1),), ((1, 2),), [1]),
                      ("way", ranks, (0, 1, 2), 2), ("differ", (), (), (), ()), ("clash", (), ((0, 1),), ((0, 2),)),
                      ("w", ranks, (0, 1, 2), 2, (1, 2)), ("Differ", (), (), ()), ("", (), (), ()), (None, (), (), ())]:
            self.assertIs(is_paper(value), False, value)
        for value in [("differ", (), (), ()), ("differ", (), ((1, 1),), (1,)), ("clash", (), ((1, 1),), ((1, 2),), (1,)),
                      ("way", (0,), (0,), 0, (0,))]:
            self.assertIs(is_paper(value), True, value)

    def test_two_stores_have_just_one_paper_and_three_one_exactly_if_they_clash(self):
        lots = [(), (0,), (1,), (0, 1)]
        for base, one, other in list(three_stores(2))[::2]:
            self.assertEqual([lot for lot in lots if is_paper(("differ", base, one, lot))], [unlike_keys(base, one)])
            found = [lot for lot in lots if is_paper(("clash", base, one, other, lot))]
            self.assertEqual(len(found), 1 if raised(put_as_one, base, one, other) else 0)


def not_shown_by_words(text):
    """Which clause tells that a text of the form of a paper is the text of none; None if it is one."""
    letter, *parts = text.split(";")
    keys = tuple(LETTERS.index(sign) for sign in parts[-1])
    if letter == "w":
        ranking = tuple(sorted(range(len(parts[0])), key=lambda key: parts[0].index(LETTERS[key])))
        ranks = tuple(len(ranking) - parts[0].index(LETTERS[key]) for key in range(len(ranking)))
        if any(LETTERS.index(sign) >= len(ranks) for sign in parts[1]):
            return 0
        if parts[2] not in parts[1]:
            return 1
        store = tuple((LETTERS.index(sign), 0) for sign in parts[1])
        return None if keys == way_by_words(ranks, store, LETTERS.index(parts[2])) else 2
    stores = [tuple((LETTERS.index(entry[0]), int(entry[1:])) for entry in part.split(".") if entry) for part in parts[:-1]]
    wanted = unlike_keys(*stores) if letter == "d" else clashing(*stores)
    return None if keys == wanted else 3


class Told(unittest.TestCase):
    def check(self, text):
        if not is_form("paper", text):
            error = raised(paper_told, text)
            self.assertIs(type(error), errors.InvalidText, text)
            self.assertEqual(repr(error.index), repr(index_of("paper", text)), text)
            return
        wanted = not_shown_by_words(text)
        if wanted is None:
            paper = paper_told(text)
            self.assertIs(is_paper(paper), True, text)
            self.assertEqual(paper_text(paper), text)
        else:
            error = raised(paper_told, text)
            self.assertIs(type(error), errors.NotShown, text)
            self.assertEqual(repr(error.count), repr(wanted), text)

    def test_texts_that_are_nearly_papers(self):
        papers = way_papers()[::23] + differ_papers()[::13] + clash_papers()[::11]
        for paper in papers:
            text = text_by_words(paper)
            draws = numbers(len(text))
            tries = list(nearly_texts(text))
            if len(tries) > 1500:
                tries = [some for some in tries if next(draws) % (len(tries) // 1000) == 0]
            for some in tries:
                self.check(some)

    def test_short_texts(self):
        for letter in "wdcx":
            for size in range(6):
                for signs in product(";a1.", repeat=size):
                    self.check(letter + "".join(signs))
        for size in range(5):
            for signs in product(";ab", repeat=size):
                self.check("w;ba" + "".join(signs))
                self.check("w;ba;ab;" + "".join(signs))
                self.check("c;a0;a1;a2" + "".join(signs))

    def test_which_clause_comes_first(self):
        for text, count in [("w;ba;abc;c;c", 0), ("w;ba;abc;d;a", 0), ("w;;a;b;b", 0), ("w;ba;a;b;b", 1), ("w;ba;a;c;b", 1),
                            ("w;;;a;a", 1), ("w;ba;ab;a;ab", 2), ("w;ba;ab;a;x", 2), ("w;ba;ab;a;a", 2), ("d;a0;;", 3),
                            ("d;;;a", 3), ("d;a0;a1;b", 3), ("c;;;;a", 3), ("c;;a1;a1;a", 3), ("c;;a1;a2;b", 3)]:
            error = raised(paper_told, text)
            self.assertIs(type(error), errors.NotShown, text)
            self.assertEqual(repr(error.count), repr(count), text)
            self.check(text)
        self.assertEqual(paper_told("w;ba;ab;a;ba"), ("way", (0, 1), (0, 1), 0, (1, 0)))
        # A text of no such form comes ahead, also far behind.
        for text in ("w;ba;abc;c;c;", "w;ba;abc;c;cc", "d;;;aa", "c;;;;aba", "d;a0;a1;b;"):
            self.check(text)
            self.assertIs(type(raised(paper_told, text)), errors.InvalidText)

    def test_long_texts(self):
        for text in ["", "w", "d", "c", "x", "W", "w" * 20000, "d;" + "a1." * 6000, "w;" + LETTERS, "w;" + LETTERS + ";",
                     "w;" + LETTERS + ";" + LETTERS + ";a;" + LETTERS, "w;" + LETTERS + ";" + LETTERS + ";y;a", "c;" * 9000,
                     "d;x1.;;", "d;;x1.;", "d;;;x", "w;ac;ac;a;a", "w;a;;a;", "w;a;a;a;", "w;a;a;ab;a", "c;;;;", "c;;;", "d;;"]:
            self.check(text)


if __name__ == "__main__":
    unittest.main()
