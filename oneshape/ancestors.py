"""Editions of a store with their ancestors: which are the nearest of two, their joining, and who tells a key."""

from oneshape.checks import check_key, holds_store, is_key_below, is_lot_below
from oneshape.editions import put_as_one
from oneshape.errors import InvalidEdition, InvalidEditions, NotOne, TooMany
from oneshape.orders import count_told_orders
from oneshape.parts import MOST_KEYS
from oneshape.stores import worth_at

MOST_EDITIONS = 8


def is_editions(value):
    """Whether any value is editions."""
    return _first_wrong(value) is None


def _first_wrong(value):
    """The least index of an entry that is no edition; None if the value is editions."""
    if type(value) is not tuple or not value:
        return 0
    for at, entry in enumerate(value[:MOST_EDITIONS]):
        if not _holds_edition(at, entry):
            return at
    return MOST_EDITIONS if len(value) > MOST_EDITIONS else None


def _holds_edition(at, value):
    """Whether the value can be the entry with this index."""
    if type(value) is not tuple or len(value) != 2:
        return False
    parents, store = value
    if not is_lot_below(parents, at) or not holds_store(store, MOST_KEYS):
        return False
    return at == 0 or len(parents) > 0


def _check_editions(editions):
    wrong = _first_wrong(editions)
    if wrong is not None:
        raise InvalidEditions(wrong)


def _check_edition(editions, edition):
    if not is_key_below(edition, len(editions)):
        raise InvalidEdition("an edition is told by its index")


def _check_two(editions, edition, other_edition):
    """The errors of these three parameters, in their order."""
    _check_editions(editions)
    _check_edition(editions, edition)
    _check_edition(editions, other_edition)


def elders(editions, edition):
    """The lot of the edition, its parents, their parents, and so on."""
    _check_editions(editions)
    _check_edition(editions, edition)
    return _elders_of(editions, edition)


def _elders_of(editions, edition):
    return _come_to([entry[0] for entry in editions], edition)


def _come_to(parents, edition):
    """The lot of the edition and of all that one comes to by steps to these parents of each."""
    found = {edition}
    # Parents stand ahead of their children, so each edition that is found has been so when its turn comes.
    for at in range(edition, -1, -1):
        if at in found:
            for parent in parents[at]:
                found.add(parent)
    return tuple(sorted(found))


def nearest(editions, edition, other_edition):
    """The lot of those elders of both that are not elders of another such one."""
    _check_two(editions, edition, other_edition)
    return _nearest_of(editions, edition, other_edition)


def _nearest_of(editions, edition, other_edition):
    theirs = _elders_of(editions, other_edition)
    common = [elder for elder in _elders_of(editions, edition) if elder in theirs]
    passed = [elder for other in common for elder in _elders_of(editions, other) if elder != other]
    return tuple([elder for elder in common if elder not in passed])


def base_of(editions, edition, other_edition):
    """The index of the only nearest one."""
    _check_two(editions, edition, other_edition)
    return _only_nearest(editions, edition, other_edition)


def _only_nearest(editions, edition, other_edition):
    lot = _nearest_of(editions, edition, other_edition)
    if len(lot) > 1:
        raise NotOne(lot)
    return lot[0]


def sequences(editions):
    """In how many sequences the editions can stand, each one behind its parents."""
    _check_editions(editions)
    pairs = tuple([(parent, at) for at, entry in enumerate(editions) for parent in entry[0]])
    return count_told_orders(tuple(range(len(editions))), pairs, {})


def joined_store(editions, edition, other_edition):
    """The store of both put together, with the only nearest one as the base."""
    _check_two(editions, edition, other_edition)
    return _joined(editions, edition, other_edition)


def _joined(editions, edition, other_edition):
    base = _only_nearest(editions, edition, other_edition)
    return put_as_one(editions[base][1], editions[edition][1], editions[other_edition][1])


def grown(editions, edition, other_edition):
    """The editions with one more, whose parents are these two, with their joined store."""
    _check_two(editions, edition, other_edition)
    store = _joined(editions, edition, other_edition)
    if len(editions) == MOST_EDITIONS:
        raise TooMany(MOST_EDITIONS)
    parents = tuple(sorted({edition, other_edition}))
    return editions + ((parents, store),)


def tellers(editions, edition, key):
    """The lot of the elders that tell the key anew and from which what the edition has there has come down."""
    _check_editions(editions)
    _check_edition(editions, edition)
    check_key(key, MOST_KEYS)
    alike = [_parents_alike(editions, at, key) for at in range(len(editions))]
    return tuple([at for at in _come_to(alike, edition) if not alike[at]])


def _parents_alike(editions, edition, key):
    """Those parents of the edition that have at the key what it has."""
    parents, store = editions[edition]
    worth = worth_at(store, key)
    return [parent for parent in parents if worth_at(editions[parent][1], key) == worth]
