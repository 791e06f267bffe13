"""Live stores: stores that deeds change, with all deeds that stand, and those whose ways are bounded."""

from oneshape.checks import check_key, check_ranking, check_size, check_store, check_worth
from oneshape.editions import put_as_one
from oneshape.errors import InvalidDeeds, NoSpan, NothingToUndo, Refused, ShapeError, TooHigh
from oneshape.parts import height_of, tree_by_ranks, way_in
from oneshape.stores import keys_differing, store_keys, worth_at

PARAMETERS = {"put": 2, "take": 1, "cut": 2, "take_in": 1}


class Live:
    """A store that deeds change."""

    def __init__(self, ranking, store):
        check_ranking(ranking)
        check_store(store, len(ranking))
        self.ranking = ranking
        self.start = store
        self.store = store
        self.depth = 0
        self._deeds = []
        # The stores behind so many deeds as their indexes tell, and of each open span how many it began with.
        self._stores = [store]
        self._spans = []

    @property
    def deeds(self):
        """A new list of the deeds that stand, in their sequence."""
        return list(self._deeds)

    def put(self, key, worth):
        """The store has this worth at the key; the number of keys of the key's way behind it."""
        check_key(key, len(self.ranking))
        check_worth(worth)
        if worth_at(self.store, key) == worth:
            raise Refused("the store has this worth there already")
        others = [entry for entry in self.store if entry[0] != key]
        self._stand(("put", key, worth), tuple(sorted(others + [(key, worth)])))
        return len(way_in(self.tree(), key))

    def take(self, key):
        """The key goes; its worth."""
        check_key(key, len(self.ranking))
        worth = worth_at(self.store, key)
        if worth is None:
            raise Refused("the key is not in the store")
        self._stand(("take", key), tuple([entry for entry in self.store if entry[0] != key]))
        return worth

    def cut(self, key, other_key):
        """All keys from the one to the other go; how many went."""
        check_key(key, len(self.ranking))
        check_key(other_key, len(self.ranking))
        low = min(key, other_key)
        high = max(key, other_key)
        kept = tuple([entry for entry in self.store if not low <= entry[0] <= high])
        gone = len(self.store) - len(kept)
        if gone == 0:
            raise Refused("none of these keys is in the store")
        self._stand(("cut", key, other_key), kept)
        return gone

    def take_in(self, other_store):
        """The store is put together with the other one, both as of the start; the keys at which it changed."""
        check_store(other_store, len(self.ranking))
        store = put_as_one(self.start, self.store, other_store)
        lot = keys_differing(self.store, store)
        if not lot:
            raise Refused("nothing would change")
        self._stand(("take_in", other_store), store)
        return lot

    def _stand(self, deed, store):
        """The deed stands, and the store is this one behind it."""
        self._check_ways(store)
        self._deeds.append(deed)
        self._stores.append(store)
        self.store = store

    def _check_ways(self, store):
        """Each store is good, however long its ways are."""

    def tree(self):
        """The tree of the store's keys."""
        return tree_by_ranks(self.ranking, store_keys(self.store))

    def way(self, key):
        """The way of the key in the tree."""
        check_key(key, len(self.ranking))
        return way_in(self.tree(), key)

    def height(self):
        """The greatest number of keys of a way of a key of the store."""
        return height_of(self.tree())

    def changed(self):
        """The lot of the keys at which start and store differ."""
        return keys_differing(self.start, self.store)

    def moments(self):
        """The ascending list of the tuples of the numbers of deeds behind which the store is the same."""
        found = {}
        for at, store in enumerate(self._stores):
            found.setdefault(store, []).append(at)
        return sorted([tuple(row) for row in list(found.values())])

    def would(self, deed):
        """The store and the height that there would be behind the deed."""
        if not _is_deed(deed):
            raise InvalidDeeds(0)
        other = self.twin()
        _execute(other, deed)
        return (other.store, other.height())

    def undo(self):
        """Takes the last deed back and returns it."""
        begun = self._spans[-1] if self._spans else 0
        if len(self._deeds) <= begun:
            raise NothingToUndo("no deed stands behind the beginning of the innermost span")
        deed = self._deeds.pop()
        self._stores.pop()
        self.store = self._stores[-1]
        return deed

    def begin(self):
        """Opens a span."""
        self._spans.append(len(self._deeds))
        self.depth = len(self._spans)

    def keep(self):
        """Ends the innermost span and leaves its deeds to the one around it."""
        self._end_span()

    def drop(self):
        """Ends the innermost span and takes its deeds back."""
        begun = self._end_span()
        while len(self._deeds) > begun:
            self.undo()

    def _end_span(self):
        """Ends the innermost span; the number of deeds that stood at its beginning."""
        if not self._spans:
            raise NoSpan("no span is open")
        begun = self._spans.pop()
        self.depth = len(self._spans)
        return begun

    def twin(self):
        """An independent one with the same deeds, and no span."""
        other = Live(self.ranking, self.start)
        self._hand_deeds_to(other)
        return other

    def spanned_twin(self):
        """An independent one with the same deeds and the same open spans."""
        other = self.twin()
        other._spans = list(self._spans)
        other.depth = self.depth
        return other

    def _hand_deeds_to(self, other):
        other._deeds = list(self._deeds)
        other._stores = list(self._stores)
        other.store = self.store

    def __eq__(self, other):
        if not isinstance(other, Live):
            return False
        return (
            type(self) is type(other)
            and self.ranking == other.ranking
            and self.start == other.start
            and self._deeds == other._deeds
        )

    def __ne__(self, other):
        return not self == other


class LowLive(Live):
    """A store that deeds change and whose keys never have ways of more keys than the bound."""

    def __init__(self, ranking, store, bound):
        Live.__init__(self, ranking, store)
        check_size(bound)
        self.bound = bound
        self._check_ways(store)

    def _check_ways(self, store):
        """TooHigh if ways of keys of the store are longer than the bound."""
        keys = store_keys(store)
        tree = tree_by_ranks(self.ranking, keys)
        lot = tuple([key for key in keys if len(way_in(tree, key)) > self.bound])
        if lot:
            raise TooHigh(lot)

    def twin(self):
        """An independent one with the same bound and the same deeds, and no span."""
        other = LowLive(self.ranking, self.start, self.bound)
        self._hand_deeds_to(other)
        return other

    def __eq__(self, other):
        if not isinstance(other, LowLive):
            return False
        return (
            self.bound == other.bound
            and self.ranking == other.ranking
            and self.start == other.start
            and self._deeds == other._deeds
        )

    def __ne__(self, other):
        return not self == other


def _is_deed(value):
    """Whether the value is a tuple of the name of a deed and as many values as it has parameters."""
    if type(value) is not tuple or not value or type(value[0]) is not str:
        return False
    return value[0] in PARAMETERS and len(value) == 1 + PARAMETERS[value[0]]


def _execute(live, deed):
    """Has the live store do a deed of good form."""
    name = deed[0]
    if name == "put":
        live.put(deed[1], deed[2])
    elif name == "take":
        live.take(deed[1])
    elif name == "cut":
        live.cut(deed[1], deed[2])
    else:
        live.take_in(deed[1])


def replay(ranking, store, deeds, *, bound=None):
    """A live store, a low one unless the bound is None, with these deeds."""
    live = Live(ranking, store) if bound is None else LowLive(ranking, store, bound)
    if type(deeds) is not list:
        raise InvalidDeeds(0)
    for at, deed in enumerate(deeds):
        if not _is_deed(deed):
            raise InvalidDeeds(at)
        try:
            _execute(live, deed)
        except ShapeError:
            raise InvalidDeeds(at) from None
    return live
