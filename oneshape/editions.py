"""Three editions of a store, or more, put together key by key."""

from oneshape.checks import check_key, check_several, check_store, check_three_stores, holds_store, holds_worth
from oneshape.errors import Clash, InvalidChoices
from oneshape.parts import MOST_KEYS
from oneshape.stores import all_fates, fate_at, keys_clashing, store_by, worth_at


def is_plain_store(value):
    """Whether any value is a store."""
    return holds_store(value, MOST_KEYS)


def fate(base, one, other, key):
    """The fate of the key."""
    check_three_stores(base, one, other, MOST_KEYS)
    check_key(key, MOST_KEYS)
    return fate_at(base, one, other, key)


def clash_keys(base, one, other):
    """The lot of the keys with the fate "clash"."""
    check_three_stores(base, one, other, MOST_KEYS)
    return keys_clashing(base, one, other)


def put_as_one(base, one, other):
    """The store of the three put together."""
    check_three_stores(base, one, other, MOST_KEYS)
    lot = keys_clashing(base, one, other)
    if lot:
        raise Clash(lot)
    return _settled_by(base, one, other, {})


def settled(base, one, other, choices):
    """The store of the three put together, with the choices at the keys that clash."""
    check_three_stores(base, one, other, MOST_KEYS)
    lot = keys_clashing(base, one, other)
    if type(choices) is not tuple or len(choices) != len(lot):
        raise InvalidChoices("choices are a tuple of as many as there are keys that clash")
    if not all([choice is None or holds_worth(choice) for choice in choices]):
        raise InvalidChoices("each choice is a worth or None")
    return _settled_by(base, one, other, dict(zip(lot, choices)))


def _settled_by(base, one, other, chosen):
    """The store of the three put together; chosen has the worth of each key that clashes, or None."""
    worths = []
    for key, told in enumerate(all_fates(base, one, other)):
        if told == "clash":
            worths.append(chosen[key])
        else:
            worths.append(worth_at(other if told == "other" else one, key))
    return store_by(worths)


def put_all(base, several):
    """The store that has what those of the several have which differ from the base."""
    check_store(base, MOST_KEYS)
    check_several(several)
    rows = [_worths_told(base, several, key) for key in range(MOST_KEYS)]
    lot = tuple([key for key, row in enumerate(rows) if len(row) > 1])
    if lot:
        raise Clash(lot)
    return store_by([row[0] if row else worth_at(base, key) for key, row in enumerate(rows)])


def _worths_told(base, several, key):
    """The unlike worths, or None, that those of the several have at the key which differ from the base there."""
    found = []
    for store in several:
        worth = worth_at(store, key)
        if worth != worth_at(base, key) and worth not in found:
            found.append(worth)
    return found
