"""Stores and what three of them have at keys, for the tests of editions."""

from itertools import product

from helpers import numbers


def store_of(worths):
    """The store with these worths at the keys 0, 1, ..; None for a key that is not there."""
    return tuple((key, worth) for key, worth in enumerate(worths) if worth is not None)


def three_stores(count, worths=(None, 0, 1)):
    """All three stores of so many keys with these worths."""
    rows = list(product(worths, repeat=3))
    for chosen in product(rows, repeat=count):
        yield tuple(store_of([row[at] for row in chosen]) for at in range(3))


def fates_stores(fates):
    """Three stores with these fates of the keys 0, 1, ..; each fate with and without a key that is not there."""
    rows = {"kept": [(None,) * 3, (5, 5, 5)], "one": [(None, 1, None), (2, None, 2), (2, 3, 2)],
            "other": [(None, None, 1), (2, 2, None), (2, 2, 3)], "alike": [(None, 1, 1), (2, None, None), (2, 3, 3)],
            "clash": [(None, 1, 2), (1, None, 2), (1, 2, None), (1, 2, 3)]}
    chosen = [rows[fate][at % len(rows[fate])] for at, fate in enumerate(fates)]
    return tuple(store_of([row[at] for row in chosen]) for at in range(3))


FATES = ("kept", "one", "other", "alike", "clash")


def drawn_stores(seed, count=24, clashing=True):
    """Three stores of so many keys, most of what they have the same in all of them."""
    draws = numbers(seed)
    many = len(FATES) if clashing else len(FATES) - 1
    share = 1 + next(draws) % 4
    fates = [FATES[next(draws) % many] if next(draws) % share == 0 else FATES[next(draws) % 2 * (seed % 3)]
             for _ in range(count)]
    return fates_stores(fates)


def worth_in(store, key):
    return dict(store).get(key)


def fate_by_words(base, one, other, key):
    had, here, there = (worth_in(store, key) for store in (base, one, other))
    if had == here == there:
        return "kept"
    if had == there:
        return "one"
    if had == here:
        return "other"
    return "alike" if here == there else "clash"


def fates_by_words(base, one, other):
    return [fate_by_words(base, one, other, key) for key in range(24)]


def samples():
    """Three stores: all of few keys, those of all fates of four keys, drawn ones of 24."""
    for count in (0, 1, 2):
        yield from three_stores(count)
    for fates in product(FATES, repeat=4):
        yield fates_stores(fates)
    for seed in range(150):
        yield drawn_stores(seed)
        yield drawn_stores(seed, 24, False)
        yield drawn_stores(seed, 9)
