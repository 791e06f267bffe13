"""Steps over stores that are known to be good; nothing is checked here."""

from oneshape.parts import MOST_KEYS, keys_of_either


def worth_at(store, key):
    """The worth that the store has at the key; None if the key is not there."""
    for held, worth in store:
        if held == key:
            return worth
    return None


def store_by(worths):
    """The store of the keys 0, 1, .. with these worths; None for a key that is not there."""
    return tuple([(key, worth) for key, worth in enumerate(worths) if worth is not None])


def store_keys(store):
    """The content of the store."""
    return tuple([entry[0] for entry in store])


def keys_differing(store, other_store):
    """The lot of the keys at which both stores differ."""
    here = [entry[0] for entry in store if entry not in other_store]
    there = [entry[0] for entry in other_store if entry not in store]
    return keys_of_either(here, there)


def fate_at(base, one, other, key):
    """The fate of the key."""
    ahead = worth_at(base, key)
    here = worth_at(one, key)
    there = worth_at(other, key)
    if here == there:
        return "kept" if here == ahead else "alike"
    if there == ahead:
        return "one"
    if here == ahead:
        return "other"
    return "clash"


def all_fates(base, one, other):
    """The list of the fates of the keys from 0 to 23."""
    return [fate_at(base, one, other, key) for key in range(MOST_KEYS)]


def keys_clashing(base, one, other):
    """The lot of the keys with the fate "clash"."""
    return tuple([key for key, fate in enumerate(all_fates(base, one, other)) if fate == "clash"])
