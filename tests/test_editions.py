"""Three editions and several put together: points [26] and [27], facts G1 (its first part), G2 and G5."""

import unittest
from itertools import permutations, product

from edition_samples import drawn_stores, fate_by_words, samples, store_of, three_stores, worth_in
from helpers import OwnInteger, OwnList, OwnTuple, numbers, raised
from oneshape import errors
from oneshape.editions import clash_keys, fate, is_plain_store, put_all, put_as_one, settled

GREAT = 999999999


class PlainStores(unittest.TestCase):
    def test_plain_stores(self):
        for value in [(), ((0, 0),), ((23, GREAT),), ((0, -GREAT), (23, 5)), tuple((key, key) for key in range(24))]:
            self.assertIs(is_plain_store(value), True, value)

    def test_nearly_plain_stores(self):
        for value in [
            [], [(0, 0)], ((24, 0),), ((-1, 0),), ((0, GREAT + 1),), ((0, -GREAT - 1),), ((0, True),), ((True, 0),),
            ((0, None),), ((0,),), ((0, 0, 0),), ([0, 0],), ((0, 0), (0, 0)), ((0, 0), (0, 1)), ((1, 0), (0, 0)), (0, 0),
            ((0, "0"),), ((0, 0.0),), OwnTuple(), (OwnTuple((0, 0)),), ((OwnInteger(0), 0),), ((0, OwnInteger(0)),), None,
            tuple((key, key) for key in range(25)), ((0, 0), None), {0: 0}, "", 0, ((0, (0,)),), ((10 ** 89, 0),),
        ]:
            self.assertIs(is_plain_store(value), False, value)


class Fates(unittest.TestCase):
    def test_fates_and_clashes(self):
        for base, one, other in samples():
            found = [fate(base, one, other, key) for key in range(24)]
            self.assertEqual(found, [fate_by_words(base, one, other, key) for key in range(24)])
            lot = tuple(key for key in range(24) if found[key] == "clash")
            self.assertEqual(repr(clash_keys(base, one, other)), repr(lot))

    def test_fates_with_one_and_other_exchanged(self):
        turned = {"one": "other", "other": "one"}
        for base, one, other in samples():
            for key in range(24):
                told = fate(base, one, other, key)
                self.assertEqual(fate(base, other, one, key), turned.get(told, told))

    def test_a_key_that_is_not_there_is_had_as_none(self):
        here, there = ((3, 0),), ((3, 1),)
        wanted = {((), (), ()): "kept", ((), here, ()): "one", ((), (), here): "other", ((), here, here): "alike",
                  ((), here, there): "clash", (here, (), here): "one", (here, here, ()): "other", (here, (), ()): "alike",
                  (here, (), there): "clash", (here, there, ()): "clash"}
        for stores, told in wanted.items():
            self.assertEqual(fate(*stores, 3), told)


def together_by_words(base, one, other, choices=()):
    left, worths = list(choices), []
    for key in range(24):
        told = fate_by_words(base, one, other, key)
        if told == "clash":
            worths.append(left.pop(0))
        else:
            worths.append(worth_in(other if told == "other" else one, key))
    return store_of(worths)


class Three(unittest.TestCase):
    def test_put_as_one(self):
        for base, one, other in samples():
            lot = clash_keys(base, one, other)
            if lot:
                error = raised(put_as_one, base, one, other)
                self.assertIs(type(error), errors.Clash)
                self.assertEqual(repr(error.lot), repr(lot))
            else:
                store = put_as_one(base, one, other)
                self.assertIs(is_plain_store(store), True)
                self.assertEqual(repr(store), repr(together_by_words(base, one, other)))
                self.assertEqual(settled(base, one, other, ()), store)

    def test_by_g2(self):
        for base, one, other in samples():
            self.assertEqual(put_as_one(base, one, one), one)
            self.assertEqual([put_as_one(base, base, other), put_as_one(base, one, base)], [other, one])
            if clash_keys(base, one, other):
                self.assertIs(type(raised(put_as_one, base, other, one)), errors.Clash)
                self.assertEqual(raised(put_all, base, (one, other)).lot, clash_keys(base, one, other))
            else:
                store = put_as_one(base, one, other)
                self.assertEqual([put_as_one(base, other, one), put_all(base, (one, other))], [store, store])

    def test_settled(self):
        for at, (base, one, other) in enumerate(samples()):
            draws = numbers(at)
            many = len(clash_keys(base, one, other))
            for choices in [(None,) * many, (0,) * many, (GREAT,) * many, (-GREAT,) * many,
                            tuple((None, next(draws) % 9)[next(draws) % 2] for _ in range(many))]:
                wanted = together_by_words(base, one, other, choices)
                self.assertEqual(repr(settled(base, one, other, choices)), repr(wanted))

    def test_choices_that_are_nearly_so(self):
        for base, one, other in list(three_stores(2))[::3] + [drawn_stores(seed) for seed in range(40)]:
            many = len(clash_keys(base, one, other))
            good = (5,) * many
            wrong = [good + (5,), good + (None,), list(good), OwnTuple(good), None, 0, "5" * many, OwnList(good)]
            for at in range(many):
                for choice in (True, False, GREAT + 1, -GREAT - 1, "5", (5,), [5], (), 5.0, OwnInteger(5), 10 ** 89):
                    wrong.append(good[:at] + (choice,) + good[at + 1:])
                wrong.append(good[:at] + good[at + 1:])
            for choices in wrong:
                self.assertIs(type(raised(settled, base, one, other, choices)), errors.InvalidChoices, choices)


def all_by_words(base, several):
    """What all differing ones have at each key, or the lot of the keys at which these are of several kinds."""
    worths, lot = [], []
    for key in range(24):
        unlike = {worth_in(store, key) for store in several} - {worth_in(base, key)}
        if len(unlike) > 1:
            lot.append(key)
        worths.append(min(unlike, key=repr) if unlike else worth_in(base, key))
    return tuple(lot), store_of(worths)


def drawn_several(seed, count):
    """A base and several stores that differ from it at few keys, mostly without clashes."""
    draws = numbers(seed)
    base = {key: next(draws) % 4 for key in range(24) if next(draws) % 2}
    several = []
    for at in range(count):
        store = dict(base)
        for key in range(24):
            if next(draws) % 6 == 0 and (key % count == at or next(draws) % (4 if seed % 2 else 4000) == 0):
                store.pop(key, None)
                if next(draws) % 2:
                    store[key] = 7 + next(draws) % 2
        several.append(tuple(sorted(store.items())))
    return tuple(sorted(base.items())), tuple(several)


class Several(unittest.TestCase):
    def test_put_all_of_few_keys(self):
        stores = [store_of(worths) for worths in product((None, 0, 1), repeat=2)]
        for base in stores:
            for count in (1, 2, 3):
                for several in product(stores, repeat=count):
                    self.check(base, several)

    def check(self, base, several):
        lot, store = all_by_words(base, several)
        if lot:
            error = raised(put_all, base, several)
            self.assertIs(type(error), errors.Clash)
            self.assertEqual(repr(error.lot), repr(lot))
        else:
            self.assertEqual(repr(put_all(base, several)), repr(store))
        return not lot

    def test_put_all_of_24_keys(self):
        good = 0
        for seed in range(80):
            base, several = drawn_several(seed, 1 + seed % 8)
            if self.check(base, several):
                good += 1
                store = base
                for other in several:
                    store = put_as_one(base, store, other)
                self.assertEqual(put_all(base, several), store)
            for turned in list(permutations(several))[:6] + [several[::-1]]:
                self.check(base, turned)
        self.assertTrue(30 < good < 75, good)

    def test_several_that_are_nearly_so(self):
        store = ((0, 1),)
        self.assertEqual(put_all((), (store,) * 8), store)
        self.assertEqual(put_all(store, (store,)), store)
        for several in [(), (store,) * 9, [store], store, None, 0, OwnTuple((store,)), "", ((),) * 9]:
            self.assertIs(type(raised(put_all, store, several)), errors.InvalidStore, several)
        for at in range(8):
            for wrong in [None, [(0, 1)], ((0, True),), ((24, 1),), ((0, 1), (0, 1)), 0, "", ((0,),), ((0, GREAT + 1),)]:
                several = (store,) * at + (wrong,) + (store,) * (7 - at)
                self.assertIs(type(raised(put_all, (), several)), errors.InvalidStore, several)
        # That of the several stands ahead of a clash.
        self.assertIs(type(raised(put_all, (), (((0, 1),), ((0, 2),), None))), errors.InvalidStore)


if __name__ == "__main__":
    unittest.main()
