"""The classes and methods of live.py and console.py, and replay, with wrong arguments."""

import unittest

from argument_checks import ODD, ArgumentChecks, odd_but
from helpers import raised
from oneshape import errors
from oneshape.console import Console
from oneshape.live import Live, LowLive, replay

RANKS = (5, 40, 12, 33, 7)
START = ((1, 7), (3, 0))


def sample():
    live = LowLive(RANKS, START, 3)
    live.put(0, 1)
    return live


# Each of these calls the method of a new live store, and tells what it returned and left.
def put(key, worth):
    live = sample()
    return [live.put(key=key, worth=worth), live.store, live.deeds]


def take(key):
    live = sample()
    return [live.take(key=key), live.store, live.deeds]


def cut(key, other_key):
    live = sample()
    return [live.cut(key=key, other_key=other_key), live.store, live.deeds]


def take_in(other_store):
    live = sample()
    return [live.take_in(other_store=other_store), live.store, live.deeds]


def way(key):
    return sample().way(key=key)


def would(deed):
    return sample().would(deed=deed)


def moments():
    return sample().moments()


def new_live(ranking, store):
    return Live(ranking=ranking, store=store).deeds


def new_low_live(ranking, store, bound):
    return LowLive(ranking=ranking, store=store, bound=bound).deeds


# For replay itself the bound is looked for ahead of the deeds, so it stands ahead of them here.
def replayed(ranking, store, bound, deeds):
    return replay(ranking, store, deeds, bound=bound).deeds


def execute(command):
    return Console().execute(command=command)


KEYS = odd_but() + [-1, 5, 23, 24, (), (0,), 2.0, "a"]
STORES = ODD + [0, ((5, 1),), ((-1, 1),), ((0, 1), (0, 1)), ((1, 1), (0, 1)), ((0, True),), ((True, 0),), [(0, 1)],
                ([0, 1],), ((0,),), ((0, 1, 2),), ((0, 10 ** 9),), ((0, -10 ** 9),), ((0, None),), ((0, "1"),)]
BOUNDS = odd_but(None) + [0, -1, 25, 2.0, (2,), "2"]
DEEDS = odd_but([], ["mark"]) + [(), (("take", 1),), 0, [("take",)], [("take", 0), None], {}, [("undo",)], [["take", 1]]]


class LiveArguments(ArgumentChecks, unittest.TestCase):
    functions = {
        put: "key worth", take: "key", cut: "key other_key", take_in: "other_store", way: "key", would: "deed",
        new_live: "ranking store", new_low_live: "ranking store bound", moments: "",
    }
    good = {"key": 3, "worth": 4, "other_key": 1, "other_store": ((1, 7), (3, 5)), "deed": ("take", 1), "ranking": RANKS,
            "store": START, "bound": 2}
    wrong = {
        "key": (errors.InvalidKey, KEYS), "other_key": (errors.InvalidKey, KEYS),
        "worth": (errors.InvalidWorth, odd_but() + [10 ** 9, -10 ** 9, 2.0, (2,), "2", [2]]),
        "other_store": (errors.InvalidStore, STORES), "store": (errors.InvalidStore, STORES),
        "deed": (errors.InvalidDeeds, odd_but() + [(), ("take",), ["take", 1], ("take", 1, 2), ("undo",), ("takes", 1), 0]),
        "ranking": (errors.InvalidRanking, ODD + [0, (1, 1), tuple(range(25)), list(RANKS), (1.0,)]),
        (new_low_live, "bound"): (errors.InvalidCount, BOUNDS + [None]),
    }
    own_errors = [
        (put, (0, 1), errors.Refused("")), (put, (1, 7), errors.Refused("")), (take, (2,), errors.Refused("")),
        (cut, (2, 2), errors.Refused("")), (cut, (4, 4), errors.Refused("")), (take_in, (START,), errors.Refused("")),
        (take_in, (((0, 2), (1, 7), (3, 0)),), errors.Clash((0,))), (take_in, (((0, 1),) + START,), errors.Refused("")),
        (new_low_live, (RANKS, ((0, 0), (1, 0)), 1), errors.TooHigh((0,))), (would, (("take", 2),), errors.Refused("")),
        (would, (("cut", 2, 2),), errors.Refused("")),
    ]
    with_lists = {"put", "take", "cut", "take_in", "moments", "new_live", "new_low_live"}

    def test_by_position(self):
        live = sample()
        self.assertEqual([live.put(3, 4), live.take(3), live.cut(0, 4), live.way(2), live.would(("put", 4, 4))],
                         [2, 4, 2, (), (((4, 4),), 1)])
        self.assertEqual(live.take_in(((1, 7), (2, 5), (3, 0))), (2,))

    def test_a_call_that_raises_an_error_changes_nothing(self):
        live = sample()
        live.begin()
        kept = repr([live.store, live.deeds, live.depth, live.tree(), live.moments()])
        for function in (put, take, cut, take_in, way, would):
            method = getattr(live, function.__name__)
            for at, name in enumerate(self.names_of(function)):
                for value in self.wrong_for(function, name)[1]:
                    arguments = self.good_arguments(function)
                    arguments[at] = value
                    self.assertIsNotNone(raised(method, *arguments))
                    self.assertEqual(repr([live.store, live.deeds, live.depth, live.tree(), live.moments()]), kept)


class ReplayArguments(ArgumentChecks, unittest.TestCase):
    functions = {replayed: "ranking store bound deeds"}
    good = {"ranking": RANKS, "store": START, "bound": 2, "deeds": [("take", 1), ("put", 1, 8)]}
    wrong = {
        "ranking": (errors.InvalidRanking, ODD + [0, (1, 1), tuple(range(25)), list(RANKS)]),
        "store": (errors.InvalidStore, STORES), "bound": (errors.InvalidCount, BOUNDS),
        "deeds": (errors.InvalidDeeds, DEEDS),
    }
    with_lists = {"replayed"}

    def test_without_a_bound(self):
        self.assertIs(type(replay(RANKS, START, [], bound=None)), Live)
        self.assertIs(type(replay(deeds=[], store=START, ranking=RANKS)), Live)
        self.assertIs(type(replay(RANKS, START, [], bound=24)), LowLive)


class ConsoleArguments(ArgumentChecks, unittest.TestCase):
    functions = {execute: "command"}
    good = {"command": "open a ba"}
    wrong = {"command": (errors.InvalidCommand, ODD + [0, b"show", ("open a ba",), ["show"], " show", "show ", "Show", "run "])}
    own_errors = [(execute, ("show",), errors.NotReady("")), (execute, ("use a",), errors.NotReady("")),
                  (execute, ("open a ac",), errors.InvalidText(2)), (execute, ("low a 0 a",), errors.InvalidCount(""))]


if __name__ == "__main__":
    unittest.main()
