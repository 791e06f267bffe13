"""Live stores with a bound, and replaying: point [34], fact J3."""

import unittest
from itertools import permutations, product

from helpers import OwnList, OwnTuple, raised
from live_samples import RANKS, drawn_deed, drawn_rankings, draws_for, heights, start_for
from oneshape import errors
from oneshape.live import Live, LowLive, replay
from test_live import answers_of, do, made, state_of

START = ((1, 7), (3, 0))
# Without the key 2 the other ones stand below one another.
CROSSED = (10, 8, 20, 7, 9)
ALL_FIVE = tuple((key, 0) for key in range(5))


class Bounds(unittest.TestCase):
    def check_high(self, error, lot):
        self.assertIs(type(error), errors.TooHigh)
        self.assertEqual(repr(error.lot), repr(lot))

    def test_of_the_class(self):
        for ranking in permutations(range(4)):
            for content in product((0, 1), repeat=4):
                store = tuple((key, 5) for key in range(4) if content[key])
                for bound in range(1, 6):
                    lot = tuple(key for key, many in sorted(heights(ranking, store).items()) if many > bound)
                    if lot:
                        self.check_high(raised(LowLive, ranking, store, bound), lot)
                        self.check_high(raised(replay, ranking, store, [], bound=bound), lot)
                    else:
                        self.assertEqual(repr(LowLive(ranking, store, bound).bound), repr(bound))

    def test_the_class_raises_it_behind_the_errors_of_its_parameters(self):
        high = ((0, 1), (1, 1), (2, 1))
        for bound in (None, True, 0, 25, -1, "2", (2,), 2.0, 10 ** 89):
            self.assertIs(type(raised(LowLive, (1, 2, 3), high, bound)), errors.InvalidCount, bound)
            self.assertIs(type(raised(LowLive, (1, 2, 3), ((3, 1),), bound)), errors.InvalidStore)
            self.assertIs(type(raised(LowLive, (1, 2, 1), ((3, 1),), bound)), errors.InvalidRanking)
        self.check_high(raised(LowLive, (1, 2, 3), high, 2), (0,))
        self.check_high(raised(LowLive, ranking=(1, 2, 3), store=high, bound=1), (0, 1))
        self.assertEqual(LowLive((), (), 1).bound, 1)
        self.assertEqual(LowLive(tuple(range(24)), tuple((key, 0) for key in range(24)), 24).height(), 24)
        self.assertEqual(len(raised(LowLive, tuple(range(24)), tuple((key, 0) for key in range(24)), 23).lot), 1)

    def test_of_each_deed(self):
        live = LowLive(RANKS, START, 2)
        for deed, lot in [(("put", 2, 0), (2,)), (("take_in", START + ((4, 0),)), (4,)),
                          (("take_in", ((0, 1), (1, 7), (2, 2), (3, 0), (4, 0))), (2, 4))]:
            self.check(live, deed, lot)
        self.assertEqual([live.put(0, 1), live.put(0, 2), live.take(1)], [2, 2, 7])
        crossed = LowLive(CROSSED, ALL_FIVE, 3)
        self.check(crossed, ("take", 2), (3,))
        self.check(crossed, ("cut", 2, 2), (3,))
        self.check(crossed, ("take_in", ALL_FIVE[:2] + ALL_FIVE[3:]), (3,))
        self.assertEqual([crossed.cut(1, 2), crossed.height()], [2, 3])

    def check(self, live, deed, lot):
        before = state_of(live)
        self.check_high(raised(do, live, deed), lot)
        self.assertEqual(state_of(live), before)
        self.check_high(raised(live.would, deed), lot)
        self.assertEqual(state_of(live), before)

    def test_behind_all_other_errors(self):
        live = LowLive(RANKS, START, 2)
        high = ((0, 1), (1, 7), (2, 2), (3, 0), (4, 0))
        for deed, wanted in [(("put", 5, 0), errors.InvalidKey), (("put", 2, None), errors.InvalidWorth),
                             (("put", 1, 7), errors.Refused), (("take_in", high + ((5, 0),)), errors.InvalidStore),
                             (("take", 2), errors.Refused), (("cut", 2, 2), errors.Refused)]:
            self.assertIs(type(raised(do, live, deed)), wanted)
            self.assertIs(type(raised(live.would, deed)), wanted)
        live.put(1, 8)
        error = raised(live.take_in, ((1, 9), (2, 0), (3, 0)))
        self.assertEqual((type(error), error.lot), (errors.Clash, (1,)))

    def test_undo_and_drop_need_no_bound(self):
        live = LowLive(CROSSED, ALL_FIVE, 3)
        live.begin()
        live.cut(0, 1)
        live.take(2)
        live.drop()
        self.assertEqual([live.store, live.height()], [ALL_FIVE, 3])

    def test_a_bound_that_nothing_goes_beyond(self):
        for seed, ranking, _ in drawn_rankings():
            draws = draws_for(seed)
            start = start_for(ranking, None, draws)
            live, low = Live(ranking, start), LowLive(ranking, start, 24)
            for _ in range(20):
                deed = drawn_deed(ranking, start, live.store, draws)
                self.assertIs(type(raised(do, live, deed)), type(raised(do, low, deed)))
            self.assertEqual(answers_of(low), answers_of(live))
            self.assertIs(low == live, False)


class Replays(unittest.TestCase):
    def test_drawn_deeds_again(self):
        for seed, ranking, bound in drawn_rankings():
            draws = draws_for(seed)
            start = start_for(ranking, bound, draws)
            live = made(ranking, start, bound)
            for _ in range(45):
                raised(do, live, drawn_deed(ranking, start, live.store, draws))
                if next(draws) % 9 == 0:
                    live.begin()
                if next(draws) % 5 == 0:
                    raised(live.undo)
            again = replay(live.ranking, live.start, live.deeds, bound=bound)
            self.assertIs(again == live, True)
            self.assertIs(type(again), type(live))
            self.assertEqual([answers_of(again), again.depth], [answers_of(live), 0])
            self.assertEqual(getattr(again, "bound", None), bound)
            half = replay(ranking, start, live.deeds[:len(live.deeds) // 2], bound=bound)
            for deed in live.deeds[len(live.deeds) // 2:]:
                do(half, deed)
            self.assertEqual(answers_of(half), answers_of(live))

    def test_without_deeds(self):
        self.assertIs(replay(RANKS, START, []) == Live(RANKS, START), True)
        self.assertIs(replay(RANKS, START, [], bound=None) == Live(RANKS, START), True)
        self.assertIs(replay(ranking=RANKS, store=START, deeds=[], bound=2) == LowLive(RANKS, START, 2), True)
        self.assertIs(type(replay(RANKS, START, [])), Live)

    def test_the_errors_of_the_class_come_first(self):
        for deeds in (None, (), [None], [("put", 9, 9)], []):
            self.assertIs(type(raised(replay, (1, 1), None, deeds, bound=0)), errors.InvalidRanking)
            self.assertIs(type(raised(replay, (1, 2), None, deeds, bound=0)), errors.InvalidStore)
            self.assertIs(type(raised(replay, (1, 2), ((2, 0),), deeds)), errors.InvalidStore)
            for bound in (0, 25, True, False, "2", (2,), -1, 2.0):
                self.assertIs(type(raised(replay, (1, 2), ((0, 0),), deeds, bound=bound)), errors.InvalidCount)
            error = raised(replay, (1, 2), ((0, 0), (1, 0)), deeds, bound=1)
            self.assertEqual((type(error), error.lot), (errors.TooHigh, (0,)))

    def check_index(self, deeds, index, **bound):
        before = repr(deeds)
        error = raised(replay, RANKS, START, deeds, **bound)
        self.assertIs(type(error), errors.InvalidDeeds, deeds)
        self.assertEqual(repr(error.index), repr(index), deeds)
        self.assertEqual(repr(deeds), before)

    def test_what_is_no_list(self):
        for deeds in [None, (), (("take", 1),), True, 0, "", "take", {}, OwnList(), OwnList([("take", 1)]), 10 ** 89]:
            for bound in ({}, {"bound": 3}):
                self.check_index(deeds, 0, **bound)

    def test_each_wrong_entry_at_each_index(self):
        good = [("put", 0, 1), ("take", 1), ("put", 1, 7), ("cut", 3, 4), ("take_in", ((1, 7), (3, 0), (4, 2)))]
        wrong = [None, (), [], "take", ("take",), ("put", 0), ("put", 0, 1, 2), ["take", 1], ("undo",), ("begin",),
                 ("Take", 1), ("take", 1, 2), (1, "take"), OwnTuple(("put", 4, 4)), ("take_in",), ("cut", 1), 0, True,
                 ("put", 5, 1), ("put", True, 1), ("put", 4, True), ("put", 4, 10 ** 9), ("take", 2), ("take", -1),
                 ("cut", 2, 2), ("cut", 0, 5), ("take_in", None), ("take_in", ((5, 1),)), ("take_in", [(4, 1)]),
                 ("take_in", START), ("keep",), ("twin",), ("way", 1), ("store",)]
        for bound in ({}, {"bound": 4}):
            self.assertEqual(replay(RANKS, START, good, **bound).deeds, good)
            for at in range(len(good) + 1):
                for entry in wrong:
                    self.check_index(good[:at] + [entry] + good[at:], at, **bound)
                    self.check_index(good[:at] + [entry, None], at, **bound)

    def test_each_entry_is_executed_ahead_of_the_next_one(self):
        self.check_index([("take", 1), ("take", 1)], 1)
        self.check_index([("take", 1), ("put", 1, 7), ("put", 1, 7)], 2)
        self.check_index([("put", 1, 8), ("take_in", ((1, 9), (3, 0)))], 1)
        self.check_index([("take", 3), ("take_in", START)], 1)
        self.check_index([("put", 0, 0), ("put", 2, 0)], 1, bound=2)
        self.check_index([("put", 2, 0), None], 0, bound=2)
        self.assertEqual(len(replay(RANKS, START, [("put", 0, 0), ("put", 2, 0)], bound=3).deeds), 2)

    def test_the_list_that_is_passed_may_be_changed(self):
        deeds = [("take", 1), ("take", 3)]
        live = replay(RANKS, START, deeds)
        deeds.clear()
        self.assertEqual(live.deeds, [("take", 1), ("take", 3)])
        live.undo()
        self.assertEqual([deeds, live.deeds], [[], [("take", 1)]])


if __name__ == "__main__":
    unittest.main()
