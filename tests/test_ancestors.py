"""Editions and their ancestors: points [30] and [31], facts H1, H2, H3 and H4."""

import unittest
from itertools import combinations, permutations, product

from edition_samples import worth_in
from helpers import OwnInteger, OwnTuple, numbers, raised
from oneshape import errors
from oneshape.ancestors import (
    base_of, elders, grown, is_editions, joined_store, nearest, sequences, tellers,
)
from oneshape.editions import clash_keys, put_as_one

STORE = ((0, 1), (23, -5))


def all_parents(count):
    """The parents of so many editions, in all ways."""
    choices = [[()]] + [[lot for size in range(1, at + 1) for lot in combinations(range(at), size)]
                        for at in range(1, count)]
    return [list(chosen) for chosen in product(*choices[:count])]


def drawn_parents(count, seed):
    """The parents of so many editions; of every third seed mostly those just ahead."""
    draws = numbers(seed)
    found = [()]
    for at in range(1, count):
        first = max(0, at - 1 - at % 2 - 2 * (seed % 3 != 0))
        lot = tuple(parent for parent in range(first, at) if seed % 3 == 0 and at > 2 or next(draws) % 3 == 0)
        found.append(lot or (next(draws) % at,))
    return found


def with_stores(parents, seed, clashing=True):
    """Editions with these parents, each with what one of its parents has but for few keys."""
    draws = numbers(seed)
    stores = []
    for at, lot in enumerate(parents):
        store = dict(stores[lot[next(draws) % len(lot)]]) if lot else {key: 0 for key in range(6)}
        for key in range(6):
            if next(draws) % 3 == 0 and (clashing or key == at):
                store.pop(key, None)
                if next(draws) % 3:
                    store[key] = next(draws) % 3
        stores.append(tuple(sorted(store.items())))
    return tuple(zip(map(tuple, parents), stores))


def samples():
    for count in (1, 2, 3, 4):
        for at, parents in enumerate(all_parents(count)):
            yield with_stores(parents, at)
    for seed in range(120):
        yield with_stores(drawn_parents(5 + seed % 4, seed), seed, seed // 4 % 2 == 0)


def elders_by_words(editions, edition):
    found = {edition}
    while True:
        more = found | {parent for at in found for parent in editions[at][0]}
        if more == found:
            return tuple(sorted(found))
        found = more


def nearest_by_words(editions, one, other):
    both = set(elders_by_words(editions, one)) & set(elders_by_words(editions, other))
    return tuple(sorted(at for at in both
                        if not any(at in elders_by_words(editions, more) for more in both - {at})))


def ways_between(editions, elder, edition):
    """All ways of steps from the elder to the edition, each to one of which the one ahead is a parent."""
    found = [(elder,)] if elder == edition else []
    for at in range(elder + 1, edition + 1):
        if elder in editions[at][0]:
            found += [(elder,) + way for way in ways_between(editions, at, edition)]
    return found


def tellers_by_words(editions, edition, key):
    worth = worth_in(editions[edition][1], key)
    found = []
    for at in range(len(editions)):
        anew = not any(worth_in(editions[parent][1], key) == worth_in(editions[at][1], key) for parent in editions[at][0])
        ways = ways_between(editions, at, edition)
        if anew and any(all(worth_in(editions[step][1], key) == worth for step in way) for way in ways):
            found.append(at)
    return tuple(found)


class Kinds(unittest.TestCase):
    def check(self, value, index):
        """The value is no editions, or, if the index is None, it is."""
        self.assertIs(is_editions(value), index is None, value)
        for call in (lambda: elders(value, 0), lambda: sequences(value), lambda: nearest(value, 0, 0),
                     lambda: base_of(value, 0, 0), lambda: joined_store(value, 0, 0), lambda: tellers(value, 0, 0)):
            error = raised(call)
            if index is None:
                self.assertIsNone(error)
            else:
                self.assertIs(type(error), errors.InvalidEditions, value)
                self.assertEqual(repr(error.index), repr(index), value)

    def test_editions(self):
        for editions in samples():
            self.assertIs(is_editions(editions), True)
        eight = with_stores(drawn_parents(8, 3), 3)
        for many in range(1, 9):
            self.check(eight[:many], None)

    def test_what_is_no_tuple_or_has_no_entry(self):
        for value in [(), [], [((), STORE)], None, True, 0, "", "words", {0: 1}, OwnTuple((((), STORE),)), 10 ** 89]:
            self.check(value, 0)

    def test_entries_that_are_nearly_so(self):
        good = with_stores(drawn_parents(8, 5), 5)
        for at in range(8):
            parents, store = good[at]
            wrong = [None, (), (parents,), (parents, store, ()), [parents, store], store, 0, "", OwnTuple(good[at])]
            wrong += [(some, store) for some in [
                None, list(range(at)), (at,), (at + 1,), (7,), (-1,), (True,), (False,), (0, 0), (None,), 0, "", ("0",), (0.0,),
                OwnTuple(parents), (OwnInteger(0),), (0, at), [], (10 ** 89,)]]
            wrong += [(parents, some) for some in [None, [], [(0, 1)], ((24, 1),), ((0, True),), ((0, 1), (0, 1)), ((0,),),
                                                   0, "", ((1, 0), (0, 0)), ((0, 10 ** 9),), OwnTuple(), OwnTuple(store)]]
            wrong.append(((), store) if at else ((0,), store))
            if at > 1:
                wrong += [((1, 0), store), ((0, 1, 1), store), ((0, 1, at), store)]
            for entry in wrong:
                self.check(good[:at] + (entry,) + good[at + 1:], at)
                for later in range(at + 1, 8):
                    self.check(good[:at] + (entry,) + good[at + 1:later] + (None,) + good[later + 1:], at)

    def test_nine_entries(self):
        good = with_stores(drawn_parents(8, 6), 6)
        for more in ((good[1],), (None,), good, ((),) * 9, good[1:] * 300):
            self.check(good + more, 8)
            for at in range(8):
                self.check(good[:at] + (None,) + good[at + 1:] + more, at)

    def test_editions_that_are_told_by_their_indexes(self):
        for editions in list(samples())[:20]:
            for index in [None, True, False, -1, len(editions), 8, 10 ** 89, "0", (0,), [0], 0.0, OwnInteger(0)]:
                for call in (lambda: elders(editions, index), lambda: nearest(editions, index, 0),
                             lambda: nearest(editions, 0, index), lambda: base_of(editions, index, index),
                             lambda: joined_store(editions, 0, index), lambda: grown(editions, index, 0),
                             lambda: tellers(editions, index, None)):
                    self.assertIs(type(raised(call)), errors.InvalidEdition, index)
            for key in [None, True, -1, 24, "a", (0,), 0.0, 10 ** 89]:
                self.assertIs(type(raised(tellers, editions, 0, key)), errors.InvalidKey, key)


class Ancestors(unittest.TestCase):
    def test_elders_and_the_nearest(self):
        for editions in samples():
            for edition in range(len(editions)):
                self.assertEqual(repr(elders(editions, edition)), repr(elders_by_words(editions, edition)))
                for other in range(len(editions)):
                    lot = nearest(editions, edition, other)
                    self.assertEqual(repr(lot), repr(nearest_by_words(editions, edition, other)))
                    self.assertEqual(nearest(editions, other, edition), lot)
                    self.assertNotEqual(lot, ())
                    if len(lot) == 1:
                        self.assertEqual(repr(base_of(editions, edition, other)), repr(lot[0]))
                    else:
                        error = raised(base_of, editions, edition, other)
                        self.assertIs(type(error), errors.NotOne)
                        self.assertEqual(repr(error.lot), repr(lot))

    def test_one_that_is_an_elder_of_the_other_one(self):
        for editions in samples():
            for edition in range(len(editions)):
                for elder in elders(editions, edition):
                    self.assertEqual(nearest(editions, elder, edition), (elder,))
                    self.assertEqual(joined_store(editions, elder, edition), editions[edition][1])
                    self.assertEqual(joined_store(editions, edition, elder), editions[edition][1])

    def test_sequences(self):
        for count in (1, 2, 3, 4):
            for parents in all_parents(count):
                self.check_sequences(with_stores(parents, 1))
        for seed in range(12):
            self.check_sequences(with_stores(drawn_parents(5 + seed % 2, seed), seed))
        star = (((), ()),) + (((0,), ()),) * 7
        self.assertEqual([sequences(star), sequences(star[:1])], [5040, 1])

    def check_sequences(self, editions):
        count = len(editions)
        found = sum(all(row.index(parent) < row.index(at) for at in range(count) for parent in editions[at][0])
                    for row in permutations(range(count)))
        self.assertEqual(repr(sequences(editions)), repr(found))
        straight = all(at in elders(editions, at + 1) for at in range(count - 1))
        self.assertIs(found == 1, straight)


class Joined(unittest.TestCase):
    def outcome(self, editions, one, other):
        """The store of both or the error, by the words of the point."""
        lot = nearest_by_words(editions, one, other)
        if len(lot) > 1:
            return errors.NotOne, lot
        stores = editions[lot[0]][1], editions[one][1], editions[other][1]
        lot = clash_keys(*stores)
        return (errors.Clash, lot) if lot else (None, put_as_one(*stores))

    def test_joined_stores_and_grown_editions(self):
        seen = set()
        for editions in samples():
            for one, other in product(range(len(editions)), repeat=2):
                wanted, told = self.outcome(editions, one, other)
                full = len(editions) == 8
                seen.add((wanted, full))
                if wanted:
                    for function in (joined_store, grown):
                        error = raised(function, editions, one, other)
                        self.assertIs(type(error), wanted)
                        self.assertEqual(repr(error.lot), repr(told))
                    continue
                self.assertEqual(repr(joined_store(editions, one, other)), repr(told))
                if full:
                    error = raised(grown, editions, one, other)
                    self.assertIs(type(error), errors.TooMany)
                    self.assertEqual(repr(error.count), "8")
                else:
                    more = grown(editions, one, other)
                    self.assertEqual(repr(more), repr(editions + ((tuple(sorted({one, other})), told),)))
                    self.check_grown(more, editions, one, other)
        self.assertEqual(len(seen), 6, seen)

    def check_grown(self, more, editions, one, other):
        last = len(editions)
        self.assertIs(is_editions(more), True)
        wanted = set(elders(editions, one)) | set(elders(editions, other)) | {last}
        self.assertEqual(set(elders(more, last)), wanted)
        for key in range(24):
            self.assertNotIn(last, tellers(more, last, key))

    def test_not_one_stands_ahead_of_a_clash(self):
        root, left, right = ((), ()), ((0,), ((0, 1),)), ((0,), ((0, 2),))
        editions = (root, left, right, ((1, 2), ((0, 3),)), ((1, 2), ((0, 4),)))
        for function in (joined_store, grown, base_of):
            self.assertEqual(raised(function, editions, 3, 4).lot, (1, 2))
            self.assertIs(type(raised(function, editions, 3, 4)), errors.NotOne)
        self.assertIs(type(raised(joined_store, editions, 1, 2)), errors.Clash)
        full = editions + (((0,), ()),) * 3
        for one, other, wanted in [(3, 4, errors.NotOne), (1, 2, errors.Clash), (0, 1, errors.TooMany)]:
            self.assertIs(type(raised(grown, full, one, other)), wanted)

    def test_one_index_twice(self):
        for editions in list(samples())[:60]:
            for edition in range(len(editions)):
                self.assertEqual(joined_store(editions, edition, edition), editions[edition][1])
                if len(editions) < 8:
                    more = grown(editions, edition, edition)
                    self.assertEqual(more[len(editions):], (((edition,), editions[edition][1]),))


class Tellers(unittest.TestCase):
    def test_tellers(self):
        for editions in samples():
            for edition in range(len(editions)):
                for key in range(7):
                    found = tellers(editions, edition, key)
                    self.assertEqual(repr(found), repr(tellers_by_words(editions, edition, key)))
                    self.assertNotEqual(found, ())
                    worth = worth_in(editions[edition][1], key)
                    anew = all(worth_in(editions[parent][1], key) != worth for parent in editions[edition][0])
                    self.assertIs(edition in found, anew)
                    self.assertLessEqual(set(found), set(elders(editions, edition)))

    def test_a_key_that_no_edition_has(self):
        for editions in list(samples())[:30]:
            for edition in range(len(editions)):
                self.assertEqual(tellers(editions, edition, 23), (0,))

    def test_one_worth_that_was_told_twice(self):
        editions = (((), ()), ((0,), ((5, 1),)), ((0,), ((5, 1),)), ((1, 2), ((5, 1),)), ((3,), ()), ((4,), ((5, 1),)))
        self.assertEqual([tellers(editions, edition, 5) for edition in range(6)], [(0,), (1,), (2,), (1, 2), (4,), (5,)])


if __name__ == "__main__":
    unittest.main()
