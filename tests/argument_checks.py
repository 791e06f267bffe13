"""What each function does with wrong arguments, alone and together, by tables that a test gives of its functions."""

import copy
from itertools import product

from helpers import FIELDS, raised


def nested(depth):
    value = []
    for _ in range(depth):
        value = [value]
    return value


ODD = [None, True, False, "", "words", "0", [], [0], [[]], (None,), (True,), (False,), ("",), ([],), (0, [1]),
       ((), 0), [(), 0, ()], ((), True, ()), ([], 0, ()), ((), 0, []), 10 ** 89, -10 ** 89, nested(40),
       tuple(range(3000)), list(range(3000)), "x" * 20000, ((),) * 3000]


def odd_but(*good):
    """The odd values without those that are good here."""
    kept = [repr(value) for value in good]
    return [value for value in ODD if repr(value) not in kept]


def lists_within(value):
    if type(value) not in (list, tuple):
        return []
    inner = [found for part in value for found in lists_within(part)]
    return inner + [value] if type(value) is list else inner


class ArgumentChecks:
    """For a test case with these tables, of its own kinds."""

    # Each function with the names of its parameters.
    functions = {}
    # Good arguments by their names, and those that a function takes where these are refused.
    good = {}
    fitting = {}
    # By the parameter's name, or the function and this name, the error's class and wrong values.
    wrong = {}
    # Functions, arguments of the right kinds, and the errors that the point tells for them.
    own_errors = []
    # The names of the functions that return lists, and how many functions end in a parameter for any value.
    with_lists = set()
    questions = 0

    def names_of(self, function):
        return self.functions[function].split()

    def good_for(self, function):
        return {**self.good, **self.fitting.get(function, {})}

    def good_arguments(self, function):
        return [self.good_for(function)[name] for name in self.names_of(function)]

    def wrong_for(self, function, name):
        return self.wrong.get((function, name)) or self.wrong.get(name) or (None, [])

    def calls_with_good_arguments(self):
        """Each function with arguments that it takes, and with those for which the point tells an error."""
        found = [(function, self.good_arguments(function)) for function in self.functions]
        return found + [(function, list(arguments)) for function, arguments, _ in self.own_errors]

    def check_error(self, function, arguments, wanted):
        """The call, by position and by name, raises just this error."""
        found = [raised(function, *arguments), raised(function, **dict(zip(self.names_of(function), arguments)))]
        for error in found:
            self.assertIs(type(error), wanted, (function.__name__, repr(arguments)[:300]))
        return found

    def test_good_arguments_raise_nothing(self):
        for function in self.functions:
            self.assertIsNone(raised(function, *self.good_arguments(function)), function)

    def test_each_wrong_argument_alone(self):
        for function, arguments in self.calls_with_good_arguments():
            for at, name in enumerate(self.names_of(function)):
                wanted, values = self.wrong_for(function, name)
                self.assertTrue(values or name == "value", name)
                for value in values:
                    self.check_error(function, arguments[:at] + [value] + arguments[at + 1:], wanted)

    def test_several_wrong_arguments_raise_the_error_of_the_first_one(self):
        for function in self.functions:
            choices = []
            names = self.names_of(function)
            step = 5 if len(names) < 4 else 11
            for name, argument in zip(names, self.good_arguments(function)):
                wanted, values = self.wrong_for(function, name)
                choices.append([(argument, None)] + [(value, wanted) for value in values[::step] + values[-1:]])
            for chosen in product(*choices):
                found = [error for _, error in chosen if error is not None]
                if len(found) > 1:
                    self.check_error(function, [value for value, _ in chosen], found[0])

    def test_the_errors_of_the_points(self):
        for function, arguments, wanted in self.own_errors:
            for error in self.check_error(function, arguments, type(wanted)):
                field = FIELDS.get(type(wanted).__name__)
                if field is not None:
                    self.assertEqual(repr(getattr(error, field)), repr(getattr(wanted, field)), function)

    def test_good_calls_by_position_and_by_name_tell_the_same(self):
        for function in self.functions:
            good = self.good_arguments(function)
            first = repr(function(*good))
            self.assertEqual(repr(function(**dict(zip(self.names_of(function), good)))), first, function)
            self.assertEqual(repr(function(*copy.deepcopy(good))), first, function)

    def test_questions_raise_nothing_for_any_value(self):
        values = ODD + [value for _, wrong in self.wrong.values() for value in wrong] + [{}, {1: 2}, object(), 1.5]
        deep, left, right = (), (), ()
        for _ in range(5000):
            deep, left, right = (deep,), (left, 0, ()), ((), 0, right)
        values += [deep, left, right, (deep, 0, deep), ((), (deep,)), ((0, deep),), [deep]]
        asked = [function for function in self.functions if self.names_of(function)[-1:] == ["value"]]
        asked = [function for function in asked if function.__name__.startswith(("is_", "are_"))]
        self.assertEqual(len(asked), self.questions)
        for function in asked:
            for value in values:
                self.assertIs(type(function(*self.good_arguments(function)[:-1], value)), bool, function)

    def test_arguments_stay_as_they_are(self):
        for function, good in self.calls_with_good_arguments():
            for at, name in enumerate(self.names_of(function)):
                for value in [good[at]] + (self.wrong_for(function, name)[1] or ODD):
                    arguments = good[:at] + [value] + good[at + 1:]
                    before = repr(arguments)
                    raised(function, *arguments)
                    self.assertEqual(repr(arguments), before, function)

    def test_lists_told_may_be_changed_without_any_effect(self):
        told = [function for function in self.functions if lists_within(function(*self.good_arguments(function)))]
        self.assertEqual({function.__name__ for function in told}, self.with_lists)
        for function in told:
            first = function(*self.good_arguments(function))
            kept = repr(first)
            for found in lists_within(first):
                found.append("mark")
            self.assertEqual(repr(function(*self.good_arguments(function))), kept, function)
            lists = lists_within(first) + lists_within(function(*self.good_arguments(function)))
            self.assertEqual(len({id(found) for found in lists}), len(lists), function)
