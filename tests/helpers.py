"""What several tests need: samples, plain second ways to the same answers, and the examples' reader."""

from itertools import combinations, permutations

from oneshape import errors

FIELDS = {
    "InvalidText": "index", "InvalidEditions": "index", "InvalidDeeds": "index",
    "TooMany": "count", "NotShown": "count",
    "Clash": "lot", "TooHigh": "lot", "NotOne": "lot", "NoRanking": "ring",
}


# Subclasses are none of the kinds that the document means.
class OwnTuple(tuple):
    pass


class OwnInteger(int):
    pass


class OwnString(str):
    pass


class OwnList(list):
    pass


def numbers(seed):
    """An endless row of numbers from 0 to 2 ** 31 - 1, the same for each seed."""
    state = seed
    while True:
        state = (state * 6364136223846793005 + 1442695040888963407) % 2 ** 64
        yield state >> 33


def shuffled(values, seed):
    draws = numbers(seed)
    return tuple(value for _, value in sorted((next(draws), value) for value in values))


def lots(count):
    """All lots of keys less than count."""
    return [lot for size in range(count + 1) for lot in combinations(range(count), size)]


def small_rankings(most):
    """All sequences of the ranks 0, 1, .. of at most so many keys."""
    return [ranks for count in range(most + 1) for ranks in permutations(range(count))]


def wide_rankings():
    """Rankings of 24 keys: in a row, by turns, ranks far apart, below 0, of 90 digits."""
    far = shuffled([(-7) ** power for power in range(24)], 3)
    huge = shuffled([10 ** 89 + power for power in range(12)] + [-10 ** 89 - power for power in range(12)], 4)
    return [
        tuple(range(24)),
        tuple(range(-1, -25, -1)),
        tuple(key if key % 2 else -key - 100 for key in range(24)),
        far,
        huge,
        shuffled(range(24), 1),
        shuffled(range(-30, -6), 2),
    ]


def some_lots(seed, how_many):
    """Lots of keys from 0 to 23, the empty one and that of all keys among them."""
    draws = numbers(seed)
    found = [(), tuple(range(24))]
    for _ in range(how_many):
        bits = next(draws)
        if next(draws) % 3 == 0:
            bits &= next(draws)
        found.append(tuple(key for key in range(24) if bits >> key & 1))
    return found


def grown_tree(ranking, content):
    """The tree, grown by hanging the keys below one another from the greatest rank to the least."""
    return hung_all(sorted(content, key=lambda member: -ranking[member]))


def hung_all(sequence):
    """The tree of keys that are hung below one another in this sequence."""
    tree = ()
    for key in sequence:
        tree = hung(tree, key)
    return tree


def hung(tree, key):
    if tree == ():
        return ((), key, ())
    left, top, right = tree
    if key < top:
        return (hung(left, key), top, right)
    return (left, top, hung(right, key))


def parts_by_top(tree):
    """The dict of the parts by their keys on top."""
    if tree == ():
        return {}
    return {**parts_by_top(tree[0]), tree[1]: tree, **parts_by_top(tree[2])}


def held_by(tree):
    """The lot of the keys of a tree."""
    return tuple(sorted(parts_by_top(tree)))


def shapes_by_orders(keys):
    """The dict of the search trees of these keys, each with its rank orders ascending, by all sequences of the keys."""
    found = {}
    for sequence in permutations(keys):
        found.setdefault(hung_all(sequence), []).append(sequence)
    return found


def raised(call, *arguments, **named):
    """The error of the package that the call raises; None if it raises none."""
    try:
        call(*arguments, **named)
    except errors.ShapeError as error:
        return error
    return None


def check_examples(test, text, names):
    """Runs examples as DOC.md writes them; a result is compared with how it is written."""
    lines = text.strip().splitlines()
    for at, line in enumerate(lines):
        if not line.startswith(">>> "):
            continue
        told = lines[at + 1] if at + 1 < len(lines) and not lines[at + 1].startswith(">>> ") else None
        if told is None:
            exec(line[4:], names)
        elif told.startswith("raises "):
            wanted = eval(told[7:], vars(errors))
            with test.assertRaises(type(wanted), msg=line) as caught:
                eval(line[4:], names)
            test.assertIs(type(caught.exception), type(wanted), line)
            field = FIELDS[type(wanted).__name__]
            test.assertEqual(repr(getattr(caught.exception, field)), repr(getattr(wanted, field)), line)
        else:
            test.assertEqual(repr(eval(line[4:], names)), told, line)
