"""All differences of two stores by looks at gaps, and how many keys are parted at the most."""

from oneshape.checks import check_ranking, check_two_stores, holds_store
from oneshape.errors import InvalidCount
from oneshape.parts import keys_of, tree_by_ranks
from oneshape.stores import keys_differing
from oneshape.sums import greatest_sums


def is_store(ranking, value):
    """Whether any value is a store of the ranking."""
    check_ranking(ranking)
    return holds_store(value, len(ranking))


def differing(ranking, store, other_store):
    """The lot of the keys at which both stores differ."""
    check_two_stores(ranking, store, other_store)
    return keys_differing(store, other_store)


def look_run(ranking, store, other_store):
    """The list of all looks, in their sequence."""
    check_two_stores(ranking, store, other_store)
    return _looks(ranking, store, other_store, -1, len(ranking))


def look_count(ranking, store, other_store):
    """The number of all looks."""
    check_two_stores(ranking, store, other_store)
    return len(_looks(ranking, store, other_store, -1, len(ranking)))


def parting(ranking, store, other_store):
    """The lot of the parting keys."""
    check_two_stores(ranking, store, other_store)
    run = _looks(ranking, store, other_store, -1, len(ranking))
    # The look behind one that opens a gap is at the gap from its low end to the parting key.
    return tuple(sorted([run[at + 1][1] for at, look in enumerate(run) if look[2] == "opened"]))


def _looks(ranking, one, other, low, high):
    """The looks from the one at this gap on, in which both stores have just these entries."""
    if one == other:
        return [(low, high, "same")]
    if not one or not other:
        return [(low, high, "lone")]
    top = max([entry[0] for entry in one + other], key=lambda key: ranking[key])
    first = _looks(ranking, _entries_between(one, low, top), _entries_between(other, low, top), low, top)
    then = _looks(ranking, _entries_between(one, top, high), _entries_between(other, top, high), top, high)
    return [(low, high, "opened")] + first + then


def _entries_between(store, low, high):
    return tuple([entry for entry in store if low < entry[0] < high])


def most_parting(ranking, count):
    """The greatest number of parting keys of two stores with all keys that differ at just count keys."""
    _check_count(ranking, count)
    return _most_on_ways(_whole_tree(ranking), (), 0)[count]


def hardest(ranking, count):
    """The first lot of count keys that makes for so many parting keys."""
    _check_count(ranking, count)
    tree = _whole_tree(ranking)
    most = _most_on_ways(tree, (), 0)[count]
    chosen = ()
    for key in range(len(ranking)):
        if len(chosen) < count and _reaches(tree, chosen + (key,), count, most):
            chosen = chosen + (key,)
    return chosen


def _check_count(ranking, count):
    """InvalidRanking; then InvalidCount unless the count is from 1 to the number of keys."""
    check_ranking(ranking)
    if type(count) is not int or not 1 <= count <= len(ranking):
        raise InvalidCount("a count is an integer from 1 to the number of keys")


def _whole_tree(ranking):
    return tree_by_ranks(ranking, tuple(range(len(ranking))))


# Keys chosen so far can be filled up to the count by greater ones, so with one more of these
# there are as many greater ones left as are asked for.
def _reaches(tree, chosen, count, most):
    """Whether the ways of the chosen keys and of greater ones, count in all, can have so many keys."""
    return _most_on_ways(tree, chosen, chosen[-1] + 1)[count - len(chosen)] == most


# The parting keys are those on the ways of the keys at which the stores differ, as both have
# all keys. On both sides of a key on top the further keys can be chosen without regard to
# each other, so the best of each side, for each number, makes the best of the part.
def _most_on_ways(tree, chosen, least):
    """At each index the most keys on the ways of the chosen keys and of so many others, from the least one on."""
    if not tree:
        return [0]
    left, top, right = tree
    sides = greatest_sums(_most_on_ways(left, chosen, least), _most_on_ways(right, chosen, least))
    passed = any([key in chosen for key in keys_of(tree)])
    reached = [many + 1 if passed or further > 0 else many for further, many in enumerate(sides)]
    if top >= least:
        reached.append(sides[-1] + 1)
    return reached
