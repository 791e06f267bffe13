"""Rows of keys cut to pages by ranks and a size: point [17], fact C4."""

import unittest

from helpers import OwnTuple, grown_tree, held_by, lots, parts_by_top, small_rankings, some_lots, wide_rankings
from oneshape.pages import cut, cut_changes, is_cut


def cut_by_tree(ranking, content, size):
    """The cut as C4 tells it: by the tops of the parts with more keys than the size."""
    parts = parts_by_top(grown_tree(ranking, content))
    keys = tuple(top for top in sorted(parts) if len(held_by(parts[top])) > size)
    ends = (-1,) + keys + (24,)
    pages = tuple(tuple(key for key in content if low < key < high) for low, high in zip(ends, ends[1:]))
    return (keys, pages)


def samples():
    for ranking in small_rankings(5):
        for content in lots(len(ranking)):
            for size in range(1, len(ranking) + 2):
                yield ranking, content, size
    for ranking in wide_rankings():
        for content in some_lots(95, 8):
            for size in (1, 2, 3, 4, 6, 9, 12, 22, 23, 24):
                yield ranking, content, size


class Cuts(unittest.TestCase):
    def test_against_the_tree(self):
        for ranking, content, size in samples():
            told = cut(ranking, content, size)
            self.assertEqual(repr(told), repr(cut_by_tree(ranking, content, size)))
            self.assertIs(is_cut(ranking, size, told), True)
            self.assertEqual(len(told[1]), len(told[0]) + 1)
            self.assertTrue(all(len(page) <= size for page in told[1]))

    def test_without_keys_and_ends(self):
        for size in (1, 24):
            self.assertEqual(cut((), (), size), ((), ((),)))
            self.assertEqual(cut((3, 4), (), size), ((), ((),)))
        whole = tuple(range(24))
        self.assertEqual(cut(whole, whole, 24), ((), (whole,)))
        self.assertEqual(cut(whole, whole, 23), ((23,), (whole[:23], ())))
        self.assertEqual(cut(whole, whole, 1), (whole[1:], ((0,),) + ((),) * 23))
        self.assertEqual(cut((9, 8, 7), (0, 1, 2), 1), ((0, 1), ((), (), (2,))))


def changed(value):
    """Values that differ from a cut at one place."""
    keys, pages = value
    yield from (list(value), OwnTuple(value), (pages, keys), (keys,), (pages,), keys, pages, (keys, pages, ()),
                (list(keys), pages), (keys, list(pages)), (OwnTuple(keys), pages), (keys, OwnTuple(pages)), None,
                (keys, None), (None, pages), (keys, keys), (len(keys), pages), (keys, len(pages)))
    for at in range(len(keys) + 1):
        yield from ((keys[:at] + (other,) + keys[at + more:], pages)
                    for other in (0, 1, True, 23, 24, -1, None, "1", ()) for more in (0, 1))
        yield (keys[:at] + keys[at + 1:], pages)
    for at, page in enumerate(pages):
        yield (keys, pages[:at] + pages[at + 1:])
        yield (keys, pages[:at] + ((),) + pages[at:])
        yield (keys, pages[:at] + (page,) + pages[at:])
        for other in [list(page), OwnTuple(page), page[:-1], page[1:], page + (23,), page + (24,), (0,) + page,
                      (-1,) + page, page + page, page[::-1], (True,), None, 0, (page,), tuple(map(str, page))]:
            yield (keys, pages[:at] + (other,) + pages[at + 1:])
    for at in range(len(pages) - 1):
        joined = pages[at] + (keys[at],) + pages[at + 1]
        yield (keys[:at] + keys[at + 1:], pages[:at] + (joined,) + pages[at + 2:])
        yield (keys, pages[:at] + (pages[at + 1], pages[at]) + pages[at + 2:])


def plain(value):
    return type(value) is int or type(value) is tuple and all(plain(part) for part in value)


class NearlyCuts(unittest.TestCase):
    def test_cuts_with_one_change(self):
        for ranking in small_rankings(4):
            for size in range(1, 5):
                cuts = {repr(cut_by_tree(ranking, content, size)) for content in lots(len(ranking))}
                for content in lots(len(ranking)):
                    for value in changed(cut(ranking, content, size)):
                        good = repr(value) in cuts and plain(value)
                        self.assertIs(is_cut(ranking, size, value), good, (ranking, size, value))

    def is_cut_of_24_keys(self, ranking, size, value):
        if len(value) != 2 or not all(type(part) is tuple for part in value):
            return False
        if not all(type(page) is tuple for page in value[1]):
            return False
        row = value[0] + sum(value[1], ())
        if not set(row) <= set(range(24)) or len(set(row)) < len(row):
            return False
        return value == cut_by_tree(ranking, tuple(sorted(row)), size)

    def test_cuts_of_24_keys_with_one_change(self):
        for ranking in wide_rankings():
            for size in (1, 3, 8):
                for value in changed(cut(ranking, tuple(range(24)), size)):
                    good = plain(value) and self.is_cut_of_24_keys(ranking, size, value)
                    self.assertIs(is_cut(ranking, size, value), good, (ranking, size, value))

    def test_other_sizes(self):
        for ranking in small_rankings(4):
            for content in lots(len(ranking)):
                for size in range(1, 5):
                    for other in range(1, 6):
                        value = cut(ranking, content, size)
                        self.assertIs(is_cut(ranking, other, value), value == cut_by_tree(ranking, content, other))

    def test_values_of_no_such_kind(self):
        deep, deep_list = (), []
        for _ in range(40):
            deep, deep_list = (deep,), [deep_list]
        for value in [None, True, False, 0, 10 ** 89, "", "x" * 20000, [], (), [(), ((),)], ((), ()), ((), [()]),
                      ([], ((),)), ((), (0,)), (0, ((),)), ((), ((), ())), ((0,), ((),)), ((), ((True,),)),
                      ((True,), ((), ())), deep, deep_list, (deep, deep), ((), (deep,)), ((), (tuple(range(2990)),)),
                      (tuple(range(1400)), ((),) * 1401), tuple(range(3000)), list(range(3000)), ((), ((0,), (0,))),
                      ((), ("",)), ("", ((),)), ((), ((10 ** 89,),)), ((), ((-1,),))]:
            for ranking in ((), (4,), (4, 5)):
                for size in (1, 24):
                    self.assertIs(is_cut(ranking, size, value), False, value)


class CutChanges(unittest.TestCase):
    def check(self, ranking, content, key, size):
        told = cut_changes(ranking, content, key, size)
        then = tuple(sorted(set(content) ^ {key}))
        ahead, behind = cut_by_tree(ranking, content, size)[1], cut_by_tree(ranking, then, size)[1]
        wanted = ([page for page in ahead if page not in behind], [page for page in behind if page not in ahead])
        self.assertEqual(repr(told), repr(wanted))
        self.assertIsNot(told[0], told[1])
        self.assertEqual([type(told), type(told[0]), type(told[1])], [tuple, list, list])
        self.assertLessEqual(len(told[0] if key in content else told[1]), 2)

    def test_each_deed(self):
        for ranking, content, size in samples():
            for key in range(len(ranking)):
                self.check(ranking, content, key, size)

    def test_equal_pages_on_both_sides(self):
        # Ranks descend, size 1: each key but the last is cut, with () ahead of it.
        falling = (9, 8, 7, 6)
        self.assertEqual(cut(falling, (0, 1, 3), 1)[1], ((), (), (3,)))
        self.assertEqual(cut_changes(falling, (0, 1, 3), 2, 1), ([], []))
        first, second = cut_changes(falling, (0, 1, 3), 2, 1)
        self.assertIsNot(first, second)
        self.assertEqual(cut_changes(falling, (0, 1, 3), 3, 1), ([(3,)], [(1,)]))
        self.assertEqual(cut_changes((1, 6, 5, 2, 4), (1, 2), 1, 1), ([()], []))
        # A page goes and comes as often as it stands in its cut.
        ranks = (2, 0, 4, 1, 3)
        self.assertEqual(cut(ranks, (0, 1, 3, 4), 2), ((0, 4), ((), (1, 3), ())))
        self.assertEqual(cut_changes(ranks, (0, 1, 3, 4), 2, 2), ([(), (1, 3), ()], [(0, 1), (3, 4)]))
        self.assertEqual(cut_changes(ranks, (0, 1, 2, 3, 4), 2, 2), ([(0, 1), (3, 4)], [(), (1, 3), ()]))

    def test_each_list_is_new(self):
        ranks = (2, 5, 1, 4, 0, 3)
        told = cut_changes(ranks, (0, 2, 4), 1, 2)
        told[0].append("mark")
        told[1].clear()
        self.assertEqual(cut_changes(ranks, (0, 2, 4), 1, 2), ([()], [(0,)]))


if __name__ == "__main__":
    unittest.main()
