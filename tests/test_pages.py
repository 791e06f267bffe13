"""Pages of contents by levels: points [15] and [16], facts C1, C2 and C3."""

import unittest
from itertools import permutations, product

from helpers import OwnInteger, OwnTuple, lots, numbers, raised, shuffled, some_lots
from oneshape.errors import Refused
from oneshape.pages import (
    height, is_page, page_changes, page_keys, page_lists, page_of, page_out, page_put, path_to,
)


def small_levels():
    found = [levels for size in range(5) for levels in product(range(3), repeat=size)]
    return found + [(0, 4), (4, 0, 4), (3, 1, 0, 4), (0, 3, 0, 0, 1), (4, 4, 4), (2, 0, 2, 0, 2), (0, 0, 0, 0, 0)]


def wide_levels():
    """Levels of 24 keys: great ones rare, none, one, many, all."""
    draws = numbers(91)
    rare = tuple(max(0, 4 - next(draws) % 16) for _ in range(24))
    halves = tuple(next(level for level in (0, 1, 2, 3, 4) if level == 4 or next(draws) % 2) for _ in range(24))
    return [
        rare, halves, (0,) * 24, (4,) * 24, (0,) * 11 + (4,) + (0,) * 12, tuple(4 - next(draws) % 3 for _ in range(24)),
        tuple(key % 5 for key in range(24)), tuple(next(draws) % 5 for _ in range(24)),
    ]


def samples():
    for levels in small_levels():
        for content in lots(len(levels)):
            yield levels, content
    for levels in wide_levels():
        for content in some_lots(92, 10):
            yield levels, content


def built(levels, content):
    """For each level the list of its pages, built from the pages of level 0 upwards."""
    row = [()]
    for key in content:
        if levels[key] == 0:
            row[-1] += (key,)
        else:
            row += [key, ()]
    told, level = [row[::2]], 0
    while len(row) > 1:
        level += 1
        merged = [(row[0],)]
        for key, page in zip(row[1::2], row[2::2]):
            if levels[key] > level:
                merged += [key, (page,)]
            else:
                merged[-1] += (key, page)
        row = merged
        told.append(row[::2])
    return told


def pages_within(page, level):
    """The list of the lists of pages of each level within the page, from level 0 on."""
    if level == 0:
        return [[page]]
    inner = [pages_within(part, level - 1) for part in page[::2]]
    return [sum(lists, []) for lists in zip(*inner)] + [[page]]


class Pages(unittest.TestCase):
    def test_pages_and_back(self):
        for levels, content in samples():
            told = built(levels, content)
            page = told[-1][0]
            self.assertEqual(repr(height(levels, content)), repr(max([levels[key] for key in content], default=0)))
            self.assertEqual(repr(page_of(levels, content)), repr(page))
            self.assertEqual(repr(page_keys(levels, page)), repr(content))
            self.assertIs(is_page(levels, page), True)

    def test_page_lists(self):
        for levels, content in samples():
            told = page_lists(levels, content)
            self.assertIs(type(told), list)
            self.assertTrue(all(type(pages) is list for pages in told))
            self.assertEqual(repr(told), repr(built(levels, content)))
            high = height(levels, content)
            self.assertEqual(repr(told), repr(pages_within(page_of(levels, content), high)))
            for level, pages in enumerate(told):
                self.assertEqual(len(pages), 1 + len([key for key in content if levels[key] > level]))

    def test_without_keys(self):
        for levels in ((), (3,), (0, 4)):
            self.assertEqual(height(levels, ()), 0)
            self.assertEqual(page_of(levels, ()), ())
            self.assertEqual(page_keys(levels, ()), ())
            self.assertEqual(page_lists(levels, ()), [[()]])
            self.assertIs(is_page(levels, ()), True)
        self.assertEqual(page_of((4,), (0,)), (((((),),),), 0, ((((),),),)))
        self.assertEqual(page_lists((1,), (0,)), [[(), ()], [((), 0, ())]])

    def test_each_list_is_new(self):
        levels = (0, 2, 0)
        kept = repr(page_lists(levels, (0, 1, 2)))
        told = page_lists(levels, (0, 1, 2))
        self.assertEqual(len({id(pages) for pages in told}), 3)
        for pages in told:
            pages.append("mark")
        told.pop()
        self.assertEqual(repr(page_lists(levels, (0, 1, 2))), kept)
        changes = page_changes(levels, (0, 2), 1)
        kept = repr(changes)
        changes.clear()
        self.assertEqual(repr(page_changes(levels, (0, 2), 1)), kept)


class Paths(unittest.TestCase):
    def check(self, levels, content, key):
        path = path_to(levels, content, key)
        self.assertIs(type(path), tuple)
        high = height(levels, content)
        page, level = page_of(levels, content), high
        for at in path[:-1]:
            self.assertGreater(level, 0)
            self.assertEqual(at % 2, 0)
            self.assertTrue(at == 0 or page[at - 1] < key)
            self.assertTrue(at == len(page) - 1 or key < page[at + 1])
            page, level = page[at], level - 1
        if level > 0:
            self.assertEqual(page[path[-1]], key)
            self.assertEqual(levels[key], level)
        else:
            self.assertEqual(path[-1], len([member for member in page if member < key]))
            self.assertTrue(key not in content or page[path[-1]] == key)
        self.assertEqual(len(path), high - levels[key] + 1 if key in content else high + 1)
        self.assertTrue(all(type(at) is int for at in path))

    def test_each_key(self):
        for levels, content in samples():
            for key in range(len(levels)):
                self.check(levels, content, key)

    def test_the_level_of_a_key_that_is_not_there_plays_no_part(self):
        for levels, content in samples():
            for key in set(range(len(levels))) - set(content):
                other = levels[:key] + ((levels[key] + 1) % 5,) + levels[key + 1:]
                self.assertEqual(path_to(levels, content, key), path_to(other, content, key))

    def test_ends(self):
        self.assertEqual(path_to((4,), (), 0), (0,))
        self.assertEqual(path_to((4,), (0,), 0), (1,))
        self.assertEqual(path_to((4, 0), (0,), 1), (2, 0, 0, 0, 0))
        self.assertEqual(path_to((0, 0, 0), (0, 2), 1), (1,))
        self.assertEqual(path_to((0, 0, 0), (0, 2), 2), (1,))


class Deeds(unittest.TestCase):
    def check(self, levels, content, key):
        page = page_of(levels, content)
        then = tuple(sorted(set(content) ^ {key}))
        right, wrong = (page_out, page_put) if key in content else (page_put, page_out)
        self.assertEqual(repr(right(levels, page, key)), repr(built(levels, then)[-1][0]))
        self.assertEqual(repr(wrong(levels, right(levels, page, key), key)), repr(page))
        self.assertIs(type(raised(wrong, levels, page, key)), Refused)

    def test_each_key(self):
        for levels, content in samples():
            for key in range(len(levels)):
                self.check(levels, content, key)

    def test_whichever_way_a_content_is_come_to(self):
        for levels in small_levels()[::5]:
            for content in lots(len(levels)):
                for sequence in permutations(content):
                    page = ()
                    for key in sequence:
                        page = page_put(levels, page, key)
                    self.assertEqual(page, page_of(levels, content))
        for levels in wide_levels():
            for seed in (1, 2):
                page = page_of(levels, tuple(range(12)))
                for key in shuffled(range(24), seed):
                    page = (page_out if key in page_keys(levels, page) else page_put)(levels, page, key)
                self.assertEqual(page, page_of(levels, tuple(range(12, 24))))


class Changes(unittest.TestCase):
    def touched(self, levels, content, key, level):
        told = built(levels, content)
        if level >= len(told):
            return ()
        higher = [member for member in content if levels[member] > level]
        at = len([member for member in higher if member < key])
        return tuple(told[level][at:at + (2 if key in higher else 1)])

    def check(self, levels, content, key):
        then = tuple(sorted(set(content) ^ {key}))
        told = page_changes(levels, content, key)
        ahead, behind = page_lists(levels, content), page_lists(levels, then)
        wanted = [(self.touched(levels, content, key, level), self.touched(levels, then, key, level))
                  for level in range(max(len(ahead), len(behind)))]
        self.assertIs(type(told), list)
        self.assertEqual(repr(told), repr(wanted))
        back = page_changes(levels, then, key)
        self.assertEqual(repr(back), repr([(come, gone) for gone, come in told]))
        for level, (gone, come) in enumerate(told):
            before = ahead[level] if level < len(ahead) else []
            after = behind[level] if level < len(behind) else []
            at = len([member for member in content if member < key and levels[member] > level])
            self.assertEqual(before[:at], after[:at])
            self.assertEqual(before[at + len(gone):], after[at + len(come):])
            self.assertEqual((tuple(before[at:at + len(gone)]), tuple(after[at:at + len(come)])), (gone, come))
            if key not in content:
                self.check_numbers(levels[key], len(ahead) - 1, level, len(gone), len(come))

    def check_numbers(self, own, high, level, gone, come):
        """How many pages of a level go and come when a key is put in, as C3 tells it."""
        self.assertEqual(gone, 1 if level <= high else 0)
        self.assertEqual(come, 2 if level < own else 1)

    def test_each_deed(self):
        for levels, content in samples():
            for key in range(len(levels)):
                self.check(levels, content, key)

    def test_ends(self):
        self.assertEqual(page_changes((0,), (), 0), [(((),), ((0,),))])
        self.assertEqual(page_changes((0,), (0,), 0), [(((0,),), ((),))])
        self.assertEqual(page_changes((1,), (0,), 0), [(((), ()), ((),)), ((((), 0, ()),), ())])
        self.assertEqual(page_changes((1,), (), 0), [(((),), ((), ())), ((), (((), 0, ()),))])
        # The page of level 1 that goes and the one that comes may hold equal pages of level 0.
        self.assertEqual(page_changes((1, 1), (0,), 1)[0], (((),), ((), ())))


def changed(value, spare):
    """Values that differ from a page at one place: left out, put in, exchanged, of another kind."""
    if type(value) is int:
        yield from (value + 1, value - 1, -value - 1, (value,), [value], str(value), None, value == 1, float(value),
                    OwnInteger(value), 10 ** 89)
        return
    yield from (list(value), OwnTuple(value), (value,), None, 0, True, "", {})
    for at, part in enumerate(value):
        yield value[:at] + value[at + 1:]
        yield value[:at] + (part,) + value[at:]
        for other in changed(part, spare):
            yield value[:at] + (other,) + value[at + 1:]
    for at in range(len(value) - 1):
        yield value[:at] + (value[at + 1], value[at]) + value[at + 2:]
    for at in range(len(value) + 1):
        for other in spare:
            yield value[:at] + (other,) + value[at:]


class NearlyPages(unittest.TestCase):
    def test_pages_with_one_change(self):
        for levels in small_levels()[::4] + [(0, 3, 0, 0, 1), (2, 0, 2, 0, 2)]:
            pages = {repr(built(levels, content)[-1][0]) for content in lots(len(levels))}
            for content in lots(len(levels)):
                page = page_of(levels, content)
                for value in changed(page, [(), 0, len(levels), ((),), True, []]):
                    good = repr(value) in pages and self.is_plain(value)
                    self.assertIs(is_page(levels, value), good, (levels, value))

    def is_plain(self, value):
        return type(value) is int or type(value) is tuple and all(self.is_plain(part) for part in value)

    def test_pages_of_24_keys_with_one_change(self):
        for levels in wide_levels():
            page = page_of(levels, tuple(range(24)))
            for value in changed(page, [(), 0, 24]):
                if not is_page(levels, value):
                    continue
                # What is still a page has lost a key, and it is the page of the others.
                self.assertTrue(self.is_plain(value))
                self.assertEqual(repr(page_of(levels, page_keys(levels, value))), repr(value))

    def test_pages_of_other_levels(self):
        for levels, other in product(small_levels()[::3], repeat=2):
            pages = {repr(built(levels, content)[-1][0]) for content in lots(len(levels))}
            for content in lots(len(other)):
                page = page_of(other, content)
                self.assertIs(is_page(levels, page), repr(page) in pages)

    def test_values_of_no_such_kind(self):
        deep, deep_list, left, right = (), [], (), ()
        for _ in range(39):
            deep, deep_list, left, right = (deep,), [deep_list], (left, 0, ()), ((), 0, right)
        values = [None, True, False, 0, 1, 10 ** 89, "", "()", "x" * 20000, [], [0], [()], deep, deep_list, left, right,
                  (None,), (True,), (False,), ("0",), ([],), ([0],), ((), 0), (0, ()), ((), 0, ()), (((),),), ((),),
                  ((), ()), ((0,), 0, ()), tuple(range(3000)), list(range(3000)), ((),) * 3000, (0,) * 3000,
                  (deep, 0, deep), {0: 1}, OwnTuple(), OwnTuple((0,)), (OwnInteger(0),), (0, 10 ** 89), (-1,), (1,)]
        for value in values:
            self.assertIs(is_page((), value), False, value)
            self.assertIs(is_page((0,), value), False, value)
            self.assertIs(is_page((1,), value), repr(value) == "((), 0, ())", value)
            self.assertIs(is_page((4,) * 24, value), False, value)
        self.assertIs(is_page((0,), (0,)), True)

    def test_too_deep_and_not_deep_enough(self):
        page = ()
        for depth in range(8):
            for level in range(5):
                self.assertIs(is_page((level,), (page, 0, page)), depth == level - 1)
            self.assertIs(is_page((0,), page), depth == 0)
            page = (page,)


if __name__ == "__main__":
    unittest.main()
