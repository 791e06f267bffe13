"""Three editions of a store put together from the top on, and the papers that tell what came of it."""

from oneshape.checks import check_ranking, check_three_stores, is_key_below
from oneshape.errors import Clash, InvalidPaper
from oneshape.parts import MOST_KEYS, ranking_from_top
from oneshape.stores import all_fates, store_by, store_keys, worth_at

WORDS = ("one", "other", "alike", "clash")


def opened_keys(ranking, base, one, other):
    """The lot of the keys opened by the ranking."""
    check_ranking(ranking)
    check_three_stores(base, one, other, len(ranking))
    held = sorted(set(store_keys(base) + store_keys(one) + store_keys(other)))
    return _opened_among(ranking, all_fates(base, one, other), held)


def _opened_among(ranking, fates, row):
    """The lot of the keys opened in a stretch in which some of the three has the keys of the row."""
    if not _differ_all([fates[key] for key in row]):
        return ()
    top = max(row, key=lambda key: ranking[key])
    at = row.index(top)
    low = _opened_among(ranking, fates, row[:at])
    high = _opened_among(ranking, fates, row[at + 1:])
    return low + (top,) + high


# By each fate but "kept" and "clash" two of the three have the same and the third one differs
# from both, so two such fates make each two differ, and so does a clash alone.
def _differ_all(fates):
    """Whether each two of the three differ at some of the keys with these fates."""
    return "clash" in fates or len([word for word in ("one", "other", "alike") if word in fates]) > 1


def least_openings(base, one, other):
    """The least number of keys opened by any ranking of 24 keys."""
    check_three_stores(base, one, other, MOST_KEYS)
    return len(_fewest_opened(all_fates(base, one, other)))


def best_ranking(base, one, other):
    """A ranking of 24 keys by which there are just so many."""
    check_three_stores(base, one, other, MOST_KEYS)
    return ranking_from_top(_fewest_opened(all_fates(base, one, other)))


def _fewest_opened(fates):
    """The fewest keys that leave no stretch between them in which each two of the three differ."""
    counted = []
    passed = "kept"
    for key, word in enumerate(fates):
        if word == "clash" or word != "kept" and passed not in ("kept", word):
            counted.append(key)
            passed = "kept"
        elif word != "kept":
            passed = word
    return tuple(counted)


def is_edition_paper(base, one, other, value):
    """Whether any value is an edition paper of the three."""
    check_three_stores(base, one, other, MOST_KEYS)
    return _holds_paper(all_fates(base, one, other), value)


def _holds_paper(fates, value):
    if type(value) is not list:
        return False
    low = 0
    for entry in value:
        if not _holds_entry(fates, entry) or entry[0] != low:
            return False
        low = entry[1] + 1
    return low == MOST_KEYS


def _holds_entry(fates, value):
    if type(value) is not tuple or len(value) != 3:
        return False
    low, high, word = value
    if type(word) is not str or word not in WORDS:
        return False
    if not is_key_below(high, MOST_KEYS) or not is_key_below(low, high + 1):
        return False
    if word == "clash":
        return low == high and fates[low] == "clash"
    return all([told in ("kept", word) for told in fates[low:high + 1]])


def shortest_paper(base, one, other):
    """An edition paper of the three with the fewest entries."""
    check_three_stores(base, one, other, MOST_KEYS)
    return _shortest(all_fates(base, one, other))


def fewest_entries(base, one, other):
    """The least number of entries of an edition paper of the three."""
    check_three_stores(base, one, other, MOST_KEYS)
    return len(_shortest(all_fates(base, one, other)))


def _shortest(fates):
    """The paper whose entries, from the first one on, each reach as far as can be."""
    paper = []
    for key, told in enumerate(fates):
        if paper and _goes_on(paper[-1][2], told):
            low, _, word = paper[-1]
            paper[-1] = (low, key, told if word == "kept" else word)
        else:
            paper.append((key, key, told))
    # Where all keys are kept, each word will do.
    return [(low, high, "one" if word == "kept" else word) for low, high, word in paper]


def _goes_on(word, told):
    """Whether an entry with this word, or with "kept" as long as each will do, can have a key with this fate, too."""
    if "clash" in (word, told):
        return False
    return word == "kept" or told in ("kept", word)


def paper_store(base, one, other, paper):
    """The store that the edition paper tells."""
    check_three_stores(base, one, other, MOST_KEYS)
    if not _holds_paper(all_fates(base, one, other), paper):
        raise InvalidPaper("this is not an edition paper of the three")
    lot = tuple([low for low, _, word in paper if word == "clash"])
    if lot:
        raise Clash(lot)
    worths = []
    for low, high, word in paper:
        source = other if word == "other" else one
        worths += [worth_at(source, key) for key in range(low, high + 1)]
    return store_by(worths)
