"""The forms of texts by plain words, for the tests of paper_texts.py and console.py."""

import re

from edition_samples import drawn_stores
from helpers import numbers, shuffled

LETTERS = "abcdefghijklmnopqrstuvwx"
PARTS = {"w": ["ranking", "lot", "key", "way"], "d": ["store", "store", "lot"], "c": ["store", "store", "store", "some"]}


def is_form(kind, text):
    """Whether the text has this form."""
    if kind == "ranking":
        return sorted(text) == list(LETTERS[:len(text)])
    if kind == "key":
        return len(text) == 1 and text in LETTERS
    if kind == "way":
        return text != "" and begins_form("way", text)
    if kind in ("lot", "some"):
        return (text != "" or kind == "lot") and begins_form(kind, text)
    if kind == "store":
        entries = text.split(".") if text else []
        letters = [entry[:1] for entry in entries]
        return ascend(letters) and all(re.fullmatch("[a-x](0|-?[1-9][0-9]{0,8})", entry) for entry in entries)
    parts = text.split(";")
    return parts[0] in PARTS and len(parts) == 1 + len(PARTS[parts[0]]) and all(
        is_form(part, told) for part, told in zip(PARTS[parts[0]], parts[1:]))


def ascend(letters):
    return all(letter in LETTERS for letter in letters) and sorted(set(letters)) == letters


def begins_form(kind, text):
    """Whether some text of this form begins with the text."""
    if kind in ("ranking", "way"):
        return all(letter in LETTERS for letter in text) and len(set(text)) == len(text)
    if kind in ("lot", "some"):
        return ascend(list(text))
    if kind == "key":
        return text == "" or is_form("key", text)
    if kind == "store":
        if text == "":
            return True
        *ahead, last = text.split(".")
        if not is_form("store", ".".join(ahead)) or (ahead and ahead[0] == "" or "" in ahead):
            return False
        if last == "":
            return ahead[-1][0] != "x"
        return ascend([entry[0] for entry in ahead + [last]]) and bool(
            re.fullmatch("[a-x](0|-?([1-9][0-9]{0,8})?)", last))
    if text == "":
        return True
    *ahead, last = text.split(";")
    if not ahead:
        return last in PARTS
    if ahead[0] not in PARTS or len(ahead) > len(PARTS[ahead[0]]):
        return False
    kinds = PARTS[ahead[0]]
    return all(is_form(part, told) for part, told in zip(kinds, ahead[1:])) and begins_form(kinds[len(ahead) - 1], last)


def index_of(kind, text):
    """The greatest number of first characters with which some form begins; None if the text has this form."""
    if is_form(kind, text):
        return None
    # With each beginning of a form its own beginnings are such, too.
    low, high = 0, len(text)
    while low < high:
        middle = (low + high + 1) // 2
        if begins_form(kind, text[:middle]):
            low = middle
        else:
            high = middle - 1
    return low


def letters_by_words(keys):
    return "".join(LETTERS[key] for key in keys)


def store_by_words(store):
    return ".".join(LETTERS[key] + str(worth) for key, worth in store)


def ranking_by_words(ranking):
    return letters_by_words(sorted(range(len(ranking)), key=lambda key: ranking[key], reverse=True))


def drawn_plain_stores(seed):
    """Three stores of 24 keys, of worths of one digit to nine, some below 0."""
    draws = numbers(seed)
    shift = {worth: (next(draws) % 10 ** (1 + next(draws) % 9)) * (1 if next(draws) % 2 else -1) for worth in range(9)}
    # Unlike worths stay unlike.
    taken = {}
    for worth, told in shift.items():
        while told in taken:
            told += 1
        taken[told] = worth
        shift[worth] = told
    return tuple(tuple((key, shift[worth]) for key, worth in store) for store in drawn_stores(seed))


def some_rankings():
    return [(), (7,), (1, 0), (0, 1, 2), (5, 40, 12, 33, 7), (-1, 10 ** 89, -10 ** 89), tuple(range(24)),
            tuple(range(0, -24, -1))] + [shuffled(range(-5, size - 5), size) for size in range(2, 25, 3)]


def nearly_texts(text, signs="abx019-.;wdc A*y"):
    """The text cut short, with a sign put in, left out, exchanged, and two signs exchanged."""
    for at in range(len(text) + 1):
        yield text[:at]
        for sign in signs:
            yield text[:at] + sign + text[at:]
            if at < len(text):
                yield text[:at] + sign + text[at + 1:]
        if at < len(text):
            yield text[:at] + text[at + 1:]
            yield text[:at] + text[at + 1:at + 2] + text[at] + text[at + 2:]
