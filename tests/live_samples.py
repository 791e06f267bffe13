"""Live stores with drawn deeds, and a plain model of them, for the tests of live.py and console.py."""

from edition_samples import fate_by_words, store_of, worth_in
from helpers import grown_tree, held_by, numbers, parts_by_top, shuffled

RANKS = (5, 40, 12, 33, 7)


def way_by_words(ranking, store, key):
    """The keys that stand between the key and each greater rank: those above it in the tree, and itself."""
    held = [member for member, _ in store]
    found = []
    for other in held:
        between = [ranking[member] for member in held if min(key, other) <= member <= max(key, other)]
        if max(between) == ranking[other]:
            found.append(other)
    on_way = [other for other in found if passes(ranking, held, other, key)]
    return tuple(sorted(on_way, key=lambda member: -ranking[member]))


def passes(ranking, held, other, key):
    """Whether one comes by the other key on the way to the key, by the part of the other one."""
    part = parts_by_top(grown_tree(ranking, held))[other]
    lesser = [member for member in held if member < held_by(part)[0]]
    greater = [member for member in held if member > held_by(part)[-1]]
    return (not lesser or lesser[-1] < key) and (not greater or greater[0] > key)


def heights(ranking, store):
    """The number of keys of the way of each key of the store."""
    return {key: len(way_by_words(ranking, store, key)) for key, _ in store}


class Model:
    """What a live store should tell, with all deeds done by the words of the points."""

    def __init__(self, ranking, start, bound=None):
        self.ranking, self.start, self.bound = ranking, start, bound
        self.stores, self.deeds, self.spans = [start], [], []

    @property
    def store(self):
        return self.stores[-1]

    def outcome(self, deed):
        """The name of the error with its lot, or None with the store behind the deed and what is returned."""
        name, *arguments = deed
        store = dict(self.store)
        if name == "put":
            key, worth = arguments
            if store.get(key) == worth:
                return "Refused", None, None
            store[key] = worth
        elif name == "take":
            if arguments[0] not in store:
                return "Refused", None, None
            answer = store.pop(arguments[0])
        elif name == "cut":
            low, high = sorted(arguments)
            gone = [key for key in store if low <= key <= high]
            if not gone:
                return "Refused", None, None
            answer = len(gone)
            store = {key: worth for key, worth in store.items() if key not in gone}
        else:
            fates = [fate_by_words(self.start, self.store, arguments[0], key) for key in range(24)]
            lot = tuple(key for key in range(24) if fates[key] == "clash")
            if lot:
                return "Clash", lot, None
            sources = [arguments[0] if fate == "other" else self.store for fate in fates]
            store = dict(store_of([worth_in(source, key) for key, source in enumerate(sources)]))
            answer = tuple(key for key in range(24) if store.get(key) != worth_in(self.store, key))
            if not answer:
                return "Refused", None, None
        behind = tuple(sorted(store.items()))
        if name == "put":
            answer = len(way_by_words(self.ranking, behind, key))
        high = tuple(key for key, many in sorted(heights(self.ranking, behind).items()) if many > (self.bound or 24))
        return ("TooHigh", high, None) if high else (None, behind, answer)

    def do(self, deed):
        wanted, store, _ = self.outcome(deed)
        if wanted is None:
            self.deeds.append(deed)
            self.stores.append(store)

    def undo(self):
        """The deed taken back; None if none may be."""
        if len(self.deeds) <= (self.spans[-1] if self.spans else 0):
            return None
        self.stores.pop()
        return self.deeds.pop()

    def drop(self):
        begun = self.spans.pop()
        del self.deeds[begun:]
        del self.stores[begun + 1:]

    def moments(self):
        return sorted({tuple(at for at, other in enumerate(self.stores) if other == store) for store in self.stores})


def drawn_store(ranking, draws, share=2):
    return tuple((key, next(draws) % 5 - 2) for key in range(len(ranking)) if next(draws) % share == 0)


def drawn_deed(ranking, start, store, draws):
    """A deed of good arguments for stores of a ranking with some key, often one that is refused."""
    kind = next(draws) % 8
    key = next(draws) % len(ranking)
    if kind < 4:
        return ("put", key, next(draws) % 5 - 2)
    if kind == 4:
        return ("take", key)
    if kind == 5:
        return ("cut", key, next(draws) % len(ranking) if next(draws) % 2 else key)
    if kind == 6:
        return ("take_in", drawn_store(ranking, draws))
    # One that differs from the start where the store does not, so that they may be put together.
    other = dict(start)
    for member in range(len(ranking)):
        if worth_in(start, member) == worth_in(store, member) and next(draws) % 3 == 0:
            other.pop(member, None)
            if next(draws) % 2:
                other[member] = next(draws) % 5 - 2
    return ("take_in", tuple(sorted(other.items())))


def drawn_rankings():
    """Rankings of one key to 24, and bounds that a store without keys keeps."""
    for seed in range(40):
        size = (1, 2, 3, 5, 8, 13, 24)[seed % 7]
        ranking = shuffled(range(-2, size - 2), seed)
        yield seed, ranking, (None, 1 + seed % 4, None, 3 + seed % 5)[seed % 4]
    # Without the key 2 the other ones stand below one another, each of them by its rank.
    for seed in range(40, 70):
        yield seed, (10, 8, 20, 7, 9), 3


def start_for(ranking, bound, draws):
    """A store that a live store with this bound may start with."""
    store = drawn_store(ranking, draws, 3)
    return store if max(heights(ranking, store).values(), default=0) <= (bound or 24) else ()


def draws_for(seed):
    return numbers(1000 + seed)
