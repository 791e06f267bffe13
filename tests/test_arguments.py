"""Each function with wrong arguments, alone and together; by name; what stays as it was."""

import copy
import unittest
from itertools import product

from helpers import raised
from oneshape import errors, reach, trees

RANKS = (5, 40, 12, 33, 7)
TREE = ((((), 0, ()), 2, ()), 3, ((), 4, ()))
CONTENT = (0, 2, 3, 4)
GOOD = {"ranking": RANKS, "content": CONTENT, "tree": TREE, "key": 2, "other_key": 1, "search_tree": TREE,
        "text": "(-,1,-)", "value": TREE}

# Each function with its parameters, and arguments of the right kinds that the point refuses.
FUNCTIONS = {
    trees.is_tree: ("ranking value", None),
    trees.tree_of: ("ranking content", None),
    trees.content_of: ("ranking tree", None),
    trees.least_ranking: ("ranking", None),
    trees.way: ("ranking tree key", None),
    trees.above: ("ranking content key", (RANKS, CONTENT, 1)),
    trees.below: ("ranking content key", (RANKS, CONTENT, 1)),
    trees.top_between: ("ranking content key other_key", None),
    trees.put_in: ("ranking tree key", (RANKS, TREE, 2)),
    trees.taken_out: ("ranking tree key", (RANKS, TREE, 1)),
    trees.tree_text: ("search_tree", None),
    trees.tree_told: ("text", None),
    reach.part_of: ("ranking tree key", (RANKS, TREE, 1)),
    reach.parts_of: ("ranking tree", None),
    reach.behind: ("ranking tree key", None),
    reach.reach: ("ranking tree key", None),
    reach.longest_way: ("ranking content", None),
}
ALL = list(FUNCTIONS) + [trees.is_ranking, trees.is_search_tree]


def nested(depth):
    value = []
    for _ in range(depth):
        value = [value]
    return value


ODD = [None, True, False, "", "words", "0", [], [0], [[]], (None,), (True,), (False,), ("",), ([],), (0, [1]),
       ((), 0), [(), 0, ()], ((), True, ()), ([], 0, ()), ((), 0, []), 10 ** 89, -10 ** 89, nested(40),
       tuple(range(3000)), list(range(3000)), "x" * 20000, ((),) * 3000]
WRONG = {
    "ranking": (errors.InvalidRanking, ODD + [0, 3, (1, 1), (5, 40, 12, 33, 5), tuple(range(25)), list(RANKS)]),
    "content": (errors.InvalidContent, ODD + [0, 3, (1, 1), (2, 1), (-1,), (5,), (0, 5), (23,), (0, 2, 2), [0, 1],
                                              (0, 2.0)]),
    "tree": (errors.InvalidTree, ODD + [0, 3, (0,), ((), 5, ()), ((), -1, ()), ((), 2, ((), 3, ())), list(TREE),
                                        (((), 1, ()), 1, ()), ((), 3, ((), 1, ()))]),
    "key": (errors.InvalidKey, ODD + [-1, 5, 23, 24, (), (0,), 2.0, RANKS]),
    "other_key": (errors.InvalidKey, ODD + [-1, 5, 23, 24, (), (0,), 2.0, RANKS]),
    "search_tree": (errors.InvalidTree, ODD + [0, 3, (0,), ((), 24, ()), ((), -1, ()), ((), 3, ((), 1, ())),
                                               list(TREE), (((), 1, ()), 1, ())]),
    "text": (errors.InvalidText, [value for value in ODD if type(value) is not str] + [0, (), ("-",), b"-", TREE]),
}


class Arguments(unittest.TestCase):
    def check_error(self, function, arguments, names, wanted):
        """The call, by position and by name, raises just this error, and leaves its arguments as they are."""
        for error in (raised(function, *arguments), raised(function, **dict(zip(names, arguments)))):
            self.assertIs(type(error), wanted, (function.__name__, repr(arguments)[:300]))

    def test_each_wrong_argument_alone(self):
        for function, (parameters, _) in FUNCTIONS.items():
            names = parameters.split()
            for at, name in enumerate(names):
                for value in WRONG.get(name, (None, []))[1]:
                    arguments = [GOOD[other] for other in names]
                    arguments[at] = value
                    self.check_error(function, arguments, names, WRONG[name][0])

    def test_several_wrong_arguments_raise_the_error_of_the_first_one(self):
        few = {name: (error, values[::5]) for name, (error, values) in WRONG.items()}
        for function, (parameters, _) in FUNCTIONS.items():
            names = parameters.split()
            choices = [[(GOOD[name], None)] + [(value, few[name][0]) for value in few.get(name, (None, []))[1]]
                       for name in names]
            for chosen in product(*choices):
                found = [error for _, error in chosen if error is not None]
                if len(found) > 1:
                    self.check_error(function, [value for value, _ in chosen], names, found[0])

    def test_refused_stands_behind_all_of_these(self):
        for function, (parameters, refused) in FUNCTIONS.items():
            if refused is None:
                continue
            names = parameters.split()
            self.check_error(function, refused, names, errors.Refused)
            for at, name in enumerate(names):
                for value in WRONG[name][1]:
                    arguments = list(refused)
                    arguments[at] = value
                    self.check_error(function, arguments, names, WRONG[name][0])

    def test_keys_contents_and_trees_are_those_of_the_ranking(self):
        for function, (parameters, _) in FUNCTIONS.items():
            names = parameters.split()
            for name, value in [("key", 3), ("other_key", 3), ("content", (3,)), ("tree", ((), 3, ()))]:
                if name in names:
                    good = {**GOOD, "ranking": (4, 2, 3), "content": (0, 1, 2), "tree": ((), 0, ((), 2, ())),
                            "key": 2, "other_key": 0, name: value}
                    self.check_error(function, [good[other] for other in names], names, WRONG[name][0])

    def test_without_a_ranking_keys_go_up_to_23(self):
        self.assertEqual(trees.tree_text(((), 23, ())), "(-,23,-)")
        self.assertEqual(trees.tree_told("(-,23,-)"), ((), 23, ()))
        self.assertIs(type(raised(trees.tree_text, ((), 24, ()))), errors.InvalidTree)

    def test_no_key_of_a_ranking_without_keys(self):
        self.assertIs(type(raised(trees.way, (), (), 0)), errors.InvalidKey)
        self.assertIs(type(raised(trees.put_in, (), (), 0)), errors.InvalidKey)
        self.assertIs(type(raised(reach.reach, (), (), 0)), errors.InvalidKey)

    def test_good_calls_by_position_and_by_name_tell_the_same(self):
        fitting = {trees.put_in: {"key": 1}, trees.is_ranking: {"value": RANKS}}
        for function in ALL:
            names = FUNCTIONS[function][0].split() if function in FUNCTIONS else ["value"]
            good = {**GOOD, **fitting.get(function, {})}
            arguments = [good[name] for name in names]
            first = function(*arguments)
            self.assertEqual(repr(function(**dict(zip(names, arguments)))), repr(first), function)
            self.assertEqual(repr(function(*arguments)), repr(first), function)

    def test_the_other_key_may_equal_the_key(self):
        self.assertEqual(trees.top_between(RANKS, CONTENT, 2, 2), 2)
        self.assertIsNone(trees.top_between(RANKS, CONTENT, 1, 1))

    def test_questions_raise_nothing_for_any_value(self):
        values = ODD + [value for _, wrong in WRONG.values() for value in wrong] + [{}, {1: 2}, object(), 1.5]
        for value in values:
            self.assertIn(trees.is_ranking(value), (True, False))
            self.assertIs(type(trees.is_ranking(value)), bool)
            self.assertIs(type(trees.is_search_tree(value)), bool)
            self.assertIs(type(trees.is_tree(RANKS, value)), bool)

    def test_arguments_stay_as_they_are(self):
        for function in ALL:
            names = FUNCTIONS[function][0].split() if function in FUNCTIONS else ["value"]
            kinds = [WRONG.get(name, (None, ODD))[1] for name in names]
            for at, values in enumerate(kinds):
                for value in values:
                    arguments = [GOOD[name] for name in names]
                    arguments[at] = value
                    before = copy.deepcopy(arguments)
                    raised(function, *arguments)
                    self.assertEqual(repr(arguments), repr(before), function)
            arguments = [GOOD[name] for name in names]
            raised(function, *arguments)
            self.assertEqual(repr(arguments), repr([GOOD[name] for name in names]), function)

    def test_the_index_of_what_is_no_string_is_0(self):
        for value in WRONG["text"][1]:
            self.assertEqual(repr(raised(trees.tree_told, value).index), "0")


if __name__ == "__main__":
    unittest.main()
