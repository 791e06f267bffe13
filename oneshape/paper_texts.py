"""Papers that tell a way, a difference or a clash, and the texts of rankings, stores and papers."""

from oneshape.checks import check_ranking, check_store, holds_ranking, holds_store, is_key_below, is_lot_below
from oneshape.errors import InvalidPaper, InvalidText, NotShown
from oneshape.letters import (
    LETTERS,
    check_end,
    letters_of,
    read_key,
    read_lot,
    read_ranking,
    read_sign,
    read_store,
    read_way,
    text_of_ranking,
    text_of_store,
)
from oneshape.parts import MOST_KEYS, tree_by_ranks, way_in
from oneshape.stores import keys_clashing, keys_differing


def ranking_text(ranking):
    """The text of the ranking."""
    check_ranking(ranking)
    return text_of_ranking(ranking)


def store_text(store):
    """The text of the store."""
    check_store(store, MOST_KEYS)
    return text_of_store(store)


def ranking_told(text):
    """The least ranking with this text."""
    _check_string(text)
    ranking, at = read_ranking(text, 0)
    check_end(text, at)
    return ranking


def store_told(text):
    """The store with this text."""
    _check_string(text)
    store, at = read_store(text, 0)
    check_end(text, at)
    return store


def _check_string(text):
    if type(text) is not str:
        raise InvalidText(0)


def is_paper(value):
    """Whether any value is a paper."""
    return _holds_paper(value)


def _holds_paper(value):
    if type(value) is not tuple or len(value) not in (4, 5) or type(value[0]) is not str:
        return False
    if value[0] == "way" and len(value) == 5:
        return _holds_way(value)
    if value[0] == "differ" and len(value) == 4:
        return _holds_differ(value)
    return value[0] == "clash" and len(value) == 5 and _holds_clash(value)


def _holds_way(value):
    _, ranking, content, key, keys = value
    if not holds_ranking(ranking) or sorted(ranking) != list(range(len(ranking))):
        return False
    if not is_lot_below(content, len(ranking)) or not is_key_below(key, len(ranking)) or key not in content:
        return False
    if type(keys) is not tuple or not all([type(passed) is int for passed in keys]):
        return False
    return keys == way_in(tree_by_ranks(ranking, content), key)


def _holds_differ(value):
    _, store, other_store, keys = value
    if not holds_store(store, MOST_KEYS) or not holds_store(other_store, MOST_KEYS):
        return False
    return is_lot_below(keys, MOST_KEYS) and keys == keys_differing(store, other_store)


def _holds_clash(value):
    _, base, one, other, keys = value
    if not all([holds_store(store, MOST_KEYS) for store in (base, one, other)]):
        return False
    return is_lot_below(keys, MOST_KEYS) and keys != () and keys == keys_clashing(base, one, other)


def paper_text(value):
    """The text of the paper."""
    if not _holds_paper(value):
        raise InvalidPaper("this is no paper")
    if value[0] == "way":
        _, ranking, content, key, keys = value
        return ";".join(["w", text_of_ranking(ranking), letters_of(content), LETTERS[key], letters_of(keys)])
    parts = [text_of_store(store) for store in value[1:-1]] + [letters_of(value[-1])]
    return ";".join(["d" if value[0] == "differ" else "c"] + parts)


def paper_told(text):
    """The paper with this text."""
    _check_string(text)
    if text[:1] == "w":
        return _way_told(text)
    if text[:1] == "d":
        return _differ_told(text)
    if text[:1] == "c":
        return _clash_told(text)
    raise InvalidText(0)


def _way_told(text):
    ranking, at = read_ranking(text, read_sign(text, 1, ";"))
    content, at = read_lot(text, read_sign(text, at, ";"))
    key, at = read_key(text, read_sign(text, at, ";"))
    keys, at = read_way(text, read_sign(text, at, ";"))
    check_end(text, at)
    if not is_lot_below(content, len(ranking)):
        raise NotShown(0)
    if key not in content:
        raise NotShown(1)
    paper = ("way", ranking, content, key, keys)
    if not _holds_way(paper):
        raise NotShown(2)
    return paper


def _stores_told(text, many):
    """So many stores from the index 1 on, each behind a sign, and the index behind them."""
    stores = []
    at = 1
    for _ in range(many):
        store, at = read_store(text, read_sign(text, at, ";"))
        stores.append(store)
    return tuple(stores), at


def _differ_told(text):
    stores, at = _stores_told(text, 2)
    keys, at = read_lot(text, read_sign(text, at, ";"))
    check_end(text, at)
    paper = ("differ",) + stores + (keys,)
    if not _holds_differ(paper):
        raise NotShown(3)
    return paper


def _clash_told(text):
    stores, at = _stores_told(text, 3)
    begun = read_sign(text, at, ";")
    keys, at = read_lot(text, begun)
    if not keys:
        raise InvalidText(begun)
    check_end(text, at)
    paper = ("clash",) + stores + (keys,)
    if not _holds_clash(paper):
        raise NotShown(3)
    return paper
