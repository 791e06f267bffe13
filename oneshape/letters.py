"""Texts of keys, rankings and stores, and the reading of their forms from an index of a text on.

Each reader goes on as far as some form of its kind goes on in the text, and returns what it
read and the index behind it; InvalidText, with the index at which no form goes on, if what
stands there is none yet.
"""

from oneshape.errors import InvalidText
from oneshape.parts import MOST_KEYS

LETTERS = "abcdefghijklmnopqrstuvwx"
DIGITS = "0123456789"
MOST_DIGITS = 9


def letters_of(keys):
    """The letters of the keys, in their sequence."""
    return "".join([LETTERS[key] for key in keys])


def text_of_ranking(ranking):
    """The text of the ranking."""
    return letters_of(sorted(range(len(ranking)), key=lambda key: -ranking[key]))


def text_of_store(store):
    """The text of the store."""
    return ".".join([f"{LETTERS[key]}{worth}" for key, worth in store])


def key_at(text, at):
    """The key whose letter stands at the index; None if none stands there."""
    sign = text[at:at + 1]
    return LETTERS.index(sign) if sign and sign in LETTERS else None


def read_sign(text, at, sign):
    """The index behind the sign that must stand at this index."""
    if text[at:at + 1] != sign:
        raise InvalidText(at)
    return at + 1


def check_end(text, at):
    """InvalidText unless the text ends at the index."""
    if at < len(text):
        raise InvalidText(at)


def _read_unlike(text, at):
    """The keys of the letters from the index on, each of them once."""
    keys = []
    end = at
    key = key_at(text, end)
    while key is not None and key not in keys:
        keys.append(key)
        end += 1
        key = key_at(text, end)
    return tuple(keys), end


def read_ranking(text, at):
    """The least ranking with the text that begins at the index, and the index behind it."""
    keys, end = _read_unlike(text, at)
    many = len(keys)
    if max(keys, default=-1) >= many:
        raise InvalidText(end)
    return tuple([many - 1 - keys.index(key) for key in range(many)]), end


def read_way(text, at):
    """The keys of the way that begins at the index, and the index behind it."""
    keys, end = _read_unlike(text, at)
    if not keys:
        raise InvalidText(end)
    return keys, end


def read_lot(text, at):
    """The lot that begins at the index, and the index behind it."""
    keys = []
    end = at
    key = key_at(text, end)
    while key is not None and key > max(keys, default=-1):
        keys.append(key)
        end += 1
        key = key_at(text, end)
    return tuple(keys), end


def read_key(text, at):
    """The key that stands at the index, and the index behind it."""
    key = key_at(text, at)
    if key is None:
        raise InvalidText(at)
    return key, at + 1


def read_store(text, at):
    """The store that begins at the index, and the index behind it."""
    if key_at(text, at) is None:
        return (), at
    store = []
    end = at
    going = True
    while going:
        key, behind = read_key(text, end)
        if store and key <= store[-1][0]:
            raise InvalidText(end)
        worth, end = read_worth(text, behind)
        store.append((key, worth))
        # Behind an entry of the last key no further one can stand.
        going = text[end:end + 1] == "." and key < MOST_KEYS - 1
        end += 1 if going else 0
    return tuple(store), end


def read_worth(text, at):
    """The worth whose digits begin at the index, and the index behind it."""
    below = text[at:at + 1] == "-"
    begun = at + 1 if below else at
    end = begun
    while end < len(text) and text[end] in DIGITS and _goes_on(text[begun:end], text[end], below):
        end += 1
    if end == begun:
        raise InvalidText(end)
    number = int(text[begun:end])
    return (-number if below else number), end


def _goes_on(digits, digit, below):
    """Whether a number with these first digits, and perhaps a sign ahead, can go on with this one."""
    if digits == "":
        return digit != "0" or not below
    return digits != "0" and len(digits) < MOST_DIGITS
