"""tree_text and tree_told: the texts and back (A4), and the index of each text that is none."""

import ast
import re
import unittest

from helpers import grown_tree, lots, raised, shuffled, small_rankings, some_lots, wide_rankings
from oneshape.errors import InvalidText
from oneshape.trees import is_search_tree, tree_told, tree_text

OPENED = [")", "tree", ",", "key", ",", "tree"]


class OwnText(str):
    pass


def written(tree):
    if tree == ():
        return "-"
    return "(" + written(tree[0]) + "," + str(tree[1]) + "," + written(tree[2]) + ")"


def filled(text):
    """The text with the rest that a tree needs, each key that is still to come the least one; None if it has none."""
    wanted, last = ["tree"], -1
    for token in re.findall(r"[0-9]+|.", text, re.DOTALL):
        if not wanted:
            return None
        now = wanted.pop()
        if now == "tree" and token == "(":
            wanted += OPENED
        elif now == "key" and re.fullmatch("[0-9]+", token):
            last = int(token)
        elif token != ("-" if now == "tree" else now):
            return None
    for now in reversed(wanted):
        if now == "key":
            last += 1
        text += {"tree": "-", "key": str(last)}.get(now, now)
    return text


def is_text(text):
    """Whether this is the text of a search tree, read by Python itself."""
    if text is None or re.search("0[0-9]", text):
        return False
    tree = ast.literal_eval(text.replace("-", "()"))
    keys = [int(digits) for digits in re.findall("[0-9]+", text)]
    return all(a < b for a, b in zip([-1] + keys, keys + [24])) and written(tree) == text


def goes_on(text):
    """Whether the text of some search tree begins with this text."""
    return any(is_text(filled(text + digit)) for digit in ["", *"0123456789"])


class Texts(unittest.TestCase):
    def check_index(self, text, index):
        error = raised(tree_told, text)
        self.assertIs(type(error), InvalidText, repr(text)[:200])
        self.assertEqual(repr(error.index), repr(index), repr(text)[:200])

    def check_any(self, text):
        """Whether the text is told or refused as the second way tells it."""
        if is_text(filled(text)) and filled(text) == text:
            self.assertEqual(written(tree_told(text)), text)
            return
        error = raised(tree_told, text)
        self.assertIs(type(error), InvalidText, text)
        self.assertTrue(goes_on(text[:error.index]), (text, error.index))
        if error.index < len(text):
            self.assertFalse(goes_on(text[:error.index + 1]), (text, error.index))
        else:
            self.assertEqual(error.index, len(text))

    def test_texts_and_back(self):
        trees = [grown_tree(ranking, content) for ranking in small_rankings(4) for content in lots(len(ranking))]
        trees += [grown_tree(ranking, content) for ranking in wide_rankings() for content in some_lots(31, 20)]
        for tree in trees:
            self.assertTrue(is_search_tree(tree))
            self.assertEqual(tree_text(tree), written(tree))
            self.assertEqual(repr(tree_told(written(tree))), repr(tree))

    def test_texts_as_they_stand(self):
        self.assertEqual(tree_text(()), "-")
        self.assertEqual(tree_text((((), 0, ()), 10, ((), 23, ()))), "((-,0,-),10,(-,23,-))")
        self.assertEqual(repr(tree_told("-")), "()")
        self.assertEqual(repr(tree_told("(-,20,(-,21,-))")), "((), 20, ((), 21, ()))")

    def test_no_string(self):
        values = [None, True, 0, 5, (), ("-",), [], ["-"], b"-", OwnText("-"), OwnText("(-,1,-)"), {"-": 1}, object()]
        for value in values:
            self.check_index(value, 0)

    def test_texts_cut_short_tell_their_length(self):
        for tree in (grown_tree(shuffled(range(24), seed), range(24)) for seed in range(4)):
            text = written(tree)
            for size in range(len(text)):
                self.check_index(text[:size], size)

    def test_indexes_as_they_stand(self):
        for text, index in [
            ("", 0), (" ", 0), (" -", 0), ("x", 0), ("()", 1), (")", 0), (",", 0), ("0", 0), ("--", 1), ("-)", 1),
            ("- ", 1), ("-\n", 1), ("(-,1,-))", 7), ("(-,1,-),", 7), ("(-,1,-)-", 7), ("(-,,-)", 3),
            ("(-,-1,-)", 3), ("(-,+1,-)", 3), ("(-, 1,-)", 3), ("(-,1 ,-)", 4), ("(-;1,-)", 2), ("(1,-)", 1),
            ("(-,00,-)", 4), ("(-,01,-)", 4), ("(-,010,-)", 4), ("(-,1,(-,02,-))", 8), ("(-,1,(-,2.0,-))", 9),
            ("(-,24,-)", 4), ("(-,25,-)", 4), ("(-,30,-)", 4), ("(-,99,-)", 4), ("(-,100,-)", 5), ("(-,230,-)", 5),
            ("(-,3", 4), ("(-,2", 4), ("(-,23", 5), ("(-,1,-", 6), ("(-,1,", 5), ("(", 1), ("((", 2),
            ("(-,2,(-,0", 8), ("(-,23,(", 6), ("(-,23,-)", None), ("(-,5,(-,5,-))", 8), ("(-,5,(-,4,-))", 8),
            ("(-,12,(-,1", 10), ("(-,12,(-,11,-))", 10), ("(-,12,(-,1,-))", 10), ("(-,19,(-,1,-))", 9),
            ("(-,2,(-,2,-))", 9), ("(-,2,(-,20,-))", None), ("(-,2,(-,2", 9), ("((-,5,-),5,-)", 9),
            ("((-,5,-),4,-)", 9), ("((-,23,-),", 5), ("((-,22,-),2", 11), ("((-,22,-),22,-)", 11),
            ("((-,22,-),23,-)", None), ("(((-,21,-),22,-),23,-)", None), ("(((-,22,", 6), ("(((-,21,(", 8),
            ("((-,22,(", 7), ("((-,21,(", 8), ("((-,21,(-,22,-)),23,(", 20),
            ("(-,\u0661,-)", 3), ("(-,1\u00b2,-)", 4), ("\u2212", 0), ("(-,1,-\x00", 6),
        ]:
            if index is None:
                self.assertEqual(written(tree_told(text)), text)
            else:
                self.check_index(text, index)

    def test_as_many_opened_as_there_are_keys(self):
        self.check_index("(" * 24, 24)
        self.check_index("(" * 25, 24)
        self.check_index("(" * 24 + "-,1", 26)
        self.check_index("(" * 24 + "-,0,(", 28)
        self.check_index("(" * 23 + "-,2", 25)
        self.check_index("(" * 23 + "-,1,(", 27)
        whole = "(" * 24 + "-" + "".join("," + str(key) + ",-)" for key in range(24))
        self.assertEqual(tree_text(tree_told(whole)), whole)
        self.check_index(whole + ")", len(whole))

    def test_long_texts(self):
        self.check_index("(" * 20000, 24)
        self.check_index("-" * 20000, 1)
        self.check_index("(-," + "1" * 19000, 5)
        self.check_index("(-," + "2" * 19000, 5)
        self.check_index("(-," + "0" * 19000, 4)
        self.check_index("(-,1,-)" * 2500, 7)
        self.check_index("(-,1," * 4000, 9)
        self.check_index("x" * 20000, 0)
        rows = "".join("(-," + str(key) + "," for key in range(24))
        self.check_index(rows + "(" * 10000, len(rows))
        self.check_index(rows + "-" + ")" * 10000, len(rows) + 25)

    def changed_texts(self, text, signs):
        for at in range(len(text) + 1):
            yield text[:at] + text[at + 1:]
            for sign in signs:
                yield text[:at] + sign + text[at:]
                yield text[:at] + sign + text[at + 1:]

    def test_small_texts_with_one_change(self):
        trees = [(), ((), 0, ()), ((), 23, ()), (((), 2, ()), 20, ((), 21, ())), ((), 1, (((), 9, ()), 12, ())),
                 ((((), 20, ()), 21, ()), 22, ((), 23, ())), (((), 0, ((), 1, ())), 2, ())]
        for tree in trees:
            for text in self.changed_texts(written(tree), "(-,)0123456789 x"):
                self.check_any(text)

    def test_long_texts_with_one_change(self):
        for seed in range(3):
            tree = grown_tree(shuffled(range(24), seed), range(24))
            for text in self.changed_texts(written(tree), "(-,)029"):
                self.check_any(text)

    def test_all_short_texts(self):
        texts = [""]
        for _ in range(5):
            texts = [text + sign for text in texts for sign in "(-,)012"]
            for text in texts:
                self.check_any(text)


if __name__ == "__main__":
    unittest.main()
