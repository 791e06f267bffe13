"""Pages of contents by levels, and rows of keys cut to pages by ranks and a size."""

from oneshape.checks import (
    check_content,
    check_content_and_key,
    check_key,
    check_levels,
    check_ranking,
    check_size,
    is_lot_below,
)
from oneshape.errors import InvalidPage, Refused
from oneshape.parts import keys_of_one_alone

DEEPEST_PAGE = 5


def height(levels, content):
    """The greatest level of the keys of the content; 0 without keys."""
    _check_levels_and_content(levels, content)
    return _height_of(levels, content)


def page_of(levels, content):
    """The page of the content."""
    _check_levels_and_content(levels, content)
    return _whole_page(levels, content)


def is_page(levels, value):
    """Whether any value is the page of some content."""
    check_levels(levels)
    return _holds_page(levels, value)


def page_keys(levels, page):
    """The content whose page this is."""
    _check_page(levels, page)
    return tuple(_keys_within(page, DEEPEST_PAGE))


def page_lists(levels, content):
    """For each level from 0 to the height the list of the pages of this level, from left to right."""
    _check_levels_and_content(levels, content)
    return [_pages_at(levels, content, level) for level in range(_height_of(levels, content) + 1)]


def path_to(levels, content, key):
    """The indexes gone by from the page of the content on to the key, or to where it would stand."""
    _check_content_and_key_of_levels(levels, content, key)
    path = []
    row = content
    for level in range(_height_of(levels, content), 0, -1):
        own = [member for member in row if levels[member] == level]
        ahead = len([member for member in own if member < key])
        if key in own:
            return tuple(path + [2 * ahead + 1])
        path.append(2 * ahead)
        row = _rows_at(levels, row, level - 1)[ahead]
    return tuple(path + [len([member for member in row if member < key])])


def page_put(levels, page, key):
    """The page of the content with the key, too."""
    keys = _checked_page_keys(levels, page, key)
    if key in keys:
        raise Refused("the content has the key")
    return _whole_page(levels, _behind_deed(keys, key))


def page_out(levels, page, key):
    """The page of the content without the key."""
    keys = _checked_page_keys(levels, page, key)
    if key not in keys:
        raise Refused("the content has not the key")
    return _whole_page(levels, _behind_deed(keys, key))


def page_changes(levels, content, key):
    """For each level the pages that go and those that come by the deed at the key."""
    _check_content_and_key_of_levels(levels, content, key)
    then = _behind_deed(content, key)
    highest = max(_height_of(levels, content), _height_of(levels, then))
    return [
        (_pages_beside(levels, content, key, level), _pages_beside(levels, then, key, level))
        for level in range(highest + 1)
    ]


def cut(ranking, content, size):
    """The lot of the cut keys, and the tuple of the cut pages from left to right."""
    check_ranking(ranking)
    check_content(content, len(ranking))
    check_size(size)
    return _cut_row(ranking, content, size)


def is_cut(ranking, size, value):
    """Whether any value is the cut of some content."""
    check_ranking(ranking)
    check_size(size)
    return _holds_cut(ranking, size, value)


def cut_changes(ranking, content, key, size):
    """The cut pages before the deed at the key that none after it equals, and the other way about."""
    check_content_and_key(ranking, content, key)
    check_size(size)
    ahead = _cut_row(ranking, content, size)[1]
    then = _cut_row(ranking, _behind_deed(content, key), size)[1]
    return ([page for page in ahead if page not in then], [page for page in then if page not in ahead])


def _check_levels_and_content(levels, content):
    check_levels(levels)
    check_content(content, len(levels))


def _check_content_and_key_of_levels(levels, content, key):
    _check_levels_and_content(levels, content)
    check_key(key, len(levels))


def _check_page(levels, page):
    check_levels(levels)
    if not _holds_page(levels, page):
        raise InvalidPage("this is not the page of a content by the levels")


def _checked_page_keys(levels, page, key):
    """The keys of the page; before that the errors of these three parameters, in their order."""
    _check_page(levels, page)
    check_key(key, len(levels))
    return tuple(_keys_within(page, DEEPEST_PAGE))


def _holds_page(levels, value):
    keys = _keys_within(value, DEEPEST_PAGE)
    if keys is None or not is_lot_below(tuple(keys), len(levels)):
        return False
    return _whole_page(levels, tuple(keys)) == value


def _keys_within(value, deepest):
    """The list of the integers in tuples within tuples, from left to right.

    None if there is anything else in them, or more than so many tuples are one within the other.
    """
    if type(value) is int:
        return [value]
    if type(value) is not tuple or deepest == 0:
        return None
    found = []
    for member in value:
        keys = _keys_within(member, deepest - 1)
        if keys is None:
            return None
        found += keys
    return found


def _height_of(levels, keys):
    return max([levels[key] for key in keys], default=0)


def _whole_page(levels, keys):
    return _page_at(levels, keys, _height_of(levels, keys))


def _page_at(levels, row, level):
    """The page of this level of a row of keys, none of which has a greater level."""
    if level == 0:
        return row
    pages = _pages_at(levels, row, level - 1)
    page = [pages[0]]
    own = [key for key in row if levels[key] == level]
    for key, following in zip(own, pages[1:]):
        page += [key, following]
    return tuple(page)


def _pages_at(levels, row, level):
    """The pages of this level of the keys of the row, from left to right."""
    return [_page_at(levels, part, level) for part in _rows_at(levels, row, level)]


def _rows_at(levels, row, level):
    """The rows of keys that stand between those with a level above this one."""
    rows = [[]]
    for key in row:
        if levels[key] > level:
            rows.append([])
        else:
            rows[-1].append(key)
    return [tuple(part) for part in rows]


def _behind_deed(content, key):
    """The content behind the deed at the key."""
    return keys_of_one_alone(content, (key,))


def _pages_beside(levels, content, key, level):
    """The pages of this level that the deed at the key touches in the content."""
    if level > _height_of(levels, content):
        return ()
    parting = [member for member in content if levels[member] > level]
    ahead = len([member for member in parting if member < key])
    many = 2 if key in parting else 1
    return tuple(_pages_at(levels, content, level)[ahead:ahead + many])


def _cut_row(ranking, row, size):
    """The cut keys and the cut pages of the row."""
    if len(row) <= size:
        return ((), (row,))
    top = max(row, key=lambda key: ranking[key])
    at = row.index(top)
    low_keys, low_pages = _cut_row(ranking, row[:at], size)
    high_keys, high_pages = _cut_row(ranking, row[at + 1:], size)
    return (low_keys + (top,) + high_keys, low_pages + high_pages)


def _holds_cut(ranking, size, value):
    if type(value) is not tuple or len(value) != 2:
        return False
    cut_keys, pages = value
    if not is_lot_below(cut_keys, len(ranking)) or type(pages) is not tuple:
        return False
    if not all([is_lot_below(page, len(ranking)) for page in pages]):
        return False
    row = tuple(sorted(list(cut_keys) + [key for page in pages for key in page]))
    return is_lot_below(row, len(ranking)) and _cut_row(ranking, row, size) == value
