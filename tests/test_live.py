"""Live stores: points [32] and [33], facts J1 and J2."""

import unittest

from edition_samples import worth_in
from helpers import OwnString, OwnTuple, grown_tree, raised
from live_samples import RANKS, Model, drawn_deed, drawn_rankings, draws_for, heights, start_for, way_by_words
from oneshape import errors
from oneshape.editions import put_as_one
from oneshape.live import Live, LowLive
from oneshape.trees import put_in, taken_out, tree_of, way

START = ((1, 7), (3, 0))


class OwnLive(Live):
    pass


def made(ranking, start, bound):
    return Live(ranking, start) if bound is None else LowLive(ranking, start, bound)


def do(live, deed):
    return getattr(live, deed[0])(*deed[1:])


def answers_of(live):
    """All that a live store tells, but for its open spans."""
    keys = range(len(live.ranking))
    return repr([live.ranking, live.start, live.store, live.deeds, live.tree(), [live.way(key) for key in keys],
                 live.height(), live.changed(), live.moments()])


def state_of(live):
    return answers_of(live), live.depth


class Deeds(unittest.TestCase):
    def check_fields(self, live, model):
        self.assertEqual(repr(live.ranking), repr(model.ranking))
        self.assertEqual(repr(live.start), repr(model.start))
        self.assertEqual(repr(live.store), repr(model.store))
        self.assertEqual(repr(live.deeds), repr(model.deeds))
        self.assertEqual(repr(live.depth), repr(len(model.spans)))
        self.assertEqual(repr(live.moments()), repr(model.moments()))
        unlike = tuple(key for key in range(24) if worth_in(model.start, key) != worth_in(model.store, key))
        self.assertEqual(repr(live.changed()), repr(unlike))
        keys = [key for key, _ in model.store]
        self.assertEqual(repr(live.tree()), repr(grown_tree(model.ranking, keys)))
        self.assertEqual(repr(live.height()), repr(max(heights(model.ranking, model.store).values(), default=0)))

    def test_drawn_deeds_spans_and_undoing(self):
        seen = {}
        for seed, ranking, bound in drawn_rankings():
            draws = draws_for(seed)
            start = start_for(ranking, bound, draws)
            live, model = made(ranking, start, bound), Model(ranking, start, bound)
            for _ in range(60):
                kind = next(draws) % 20
                if kind < 14:
                    self.check_deed(live, model, drawn_deed(ranking, start, model.store, draws), seen)
                elif kind < 16:
                    self.check_undo(live, model)
                elif kind < 18 and len(model.spans) < 12:
                    self.assertIsNone(live.begin())
                    model.spans.append(len(model.deeds))
                elif model.spans:
                    if next(draws) % 2:
                        self.assertIsNone(live.keep())
                        model.spans.pop()
                    else:
                        self.assertIsNone(live.drop())
                        model.drop()
                self.check_fields(live, model)
        self.assertEqual(set(seen), {(name, error) for name in ("put", "take", "cut", "take_in")
                                     for error in (None, "Refused", "TooHigh")} | {("take_in", "Clash")})

    def check_deed(self, live, model, deed, seen):
        wanted, told, answer = model.outcome(deed)
        seen[(deed[0], wanted)] = True
        before = state_of(live)
        for call in (lambda: live.would(deed), lambda: do(live, deed)):
            self.assertEqual(state_of(live), before)
            if wanted is not None:
                error = raised(call)
                self.assertEqual(type(error).__name__, wanted)
                if told is not None:
                    self.assertEqual(repr(error.lot), repr(told))
        if wanted is not None:
            self.assertEqual(state_of(live), before)
        else:
            height = max(heights(model.ranking, told).values(), default=0)
            self.assertEqual(repr(live.would(deed)), repr((told, height)))
            self.assertEqual(state_of(live), before)
            self.assertEqual(repr(do(live, deed)), repr(answer))
            model.do(deed)

    def check_undo(self, live, model):
        before = state_of(live)
        deed = model.undo()
        if deed is None:
            self.assertIs(type(raised(live.undo)), errors.NothingToUndo)
            self.assertEqual(state_of(live), before)
        else:
            self.assertEqual(repr(live.undo()), repr(deed))


class OneDeed(unittest.TestCase):
    def test_the_ways_of_keys(self):
        for seed, ranking, _ in drawn_rankings():
            draws = draws_for(seed)
            store = start_for(ranking, None, draws)
            live = Live(ranking, store)
            for key in range(len(ranking)):
                self.assertEqual(repr(live.way(key)), repr(way_by_words(ranking, store, key)))
                self.assertEqual(live.way(key), way(ranking, live.tree(), key))

    def test_put(self):
        live = Live(RANKS, START)
        self.assertIs(type(raised(live.put, 1, 7)), errors.Refused)
        self.assertEqual(live.deeds, [])
        self.assertEqual([live.put(1, 8), live.put(1, 7), live.put(0, 7), live.store], [1, 1, 2, ((0, 7), (1, 7), (3, 0))])
        self.assertEqual(live.deeds, [("put", 1, 8), ("put", 1, 7), ("put", 0, 7)])
        self.assertEqual(live.put(worth=-999999999, key=4), 3)
        self.assertEqual(live.deeds[-1], ("put", 4, -999999999))

    def test_take_and_cut(self):
        live = Live(RANKS, START)
        self.assertIs(type(raised(live.take, 0)), errors.Refused)
        self.assertEqual([repr(live.take(3)), live.store], ["0", ((1, 7),)])
        self.assertIs(type(raised(live.take, 3)), errors.Refused)
        for low, high in [(2, 4), (4, 2), (0, 0), (2, 2)]:
            self.assertIs(type(raised(live.cut, low, high)), errors.Refused)
        self.assertEqual([live.cut(4, 0), live.store, live.height()], [1, (), 0])
        self.assertEqual(live.deeds, [("take", 3), ("cut", 4, 0)])
        self.assertIs(type(raised(live.cut, 0, 4)), errors.Refused)
        self.assertEqual(Live(RANKS, START).cut(key=1, other_key=1), 1)
        self.assertEqual(Live(RANKS, START).cut(other_key=3, key=1), 2)

    def test_take_in(self):
        live = Live(RANKS, START)
        for store in (live.start, live.store):
            self.assertIs(type(raised(live.take_in, store)), errors.Refused)
        self.assertEqual([live.take_in(((1, 7),)), live.store], [(3,), ((1, 7),)])
        self.assertIs(type(raised(live.take_in, ((1, 7),))), errors.Refused)
        self.assertEqual(live.take_in(other_store=()), (1,))
        self.assertEqual(live.deeds, [("take_in", ((1, 7),)), ("take_in", ())])
        for store in (live.start, live.store):
            self.assertIs(type(raised(live.take_in, store)), errors.Refused)
        error = raised(live.take_in, ((1, 9), (3, 1)))
        self.assertEqual((type(error), error.lot), (errors.Clash, (1, 3)))

    def test_where_a_store_clashes(self):
        for seed, ranking, _ in drawn_rankings():
            draws = draws_for(seed)
            live = Live(ranking, start_for(ranking, None, draws))
            for _ in range(25):
                deed = drawn_deed(ranking, live.start, live.store, draws)
                if deed[0] == "take_in":
                    error = raised(live.would, deed)
                    lot = tuple(key for key in live.changed() if worth_in(deed[1], key) not in
                                (worth_in(live.start, key), worth_in(live.store, key)))
                    self.assertEqual(getattr(error, "lot", ()), lot)
                    if not lot and error is None:
                        self.assertEqual(live.would(deed)[0], put_as_one(live.start, live.store, deed[1]))
                raised(do, live, deed)
                self.assertIs(type(raised(live.take_in, live.start)), errors.Refused)
                self.assertIs(type(raised(live.take_in, live.store)), errors.Refused)

    def test_trees_hang_on_the_keys_alone(self):
        for seed, ranking, _ in drawn_rankings():
            draws = draws_for(seed)
            live = Live(ranking, start_for(ranking, None, draws))
            for _ in range(30):
                key, before = next(draws) % len(ranking), live.tree()
                if worth_in(live.store, key) is None:
                    live.put(key, 5)
                    self.assertEqual(live.tree(), put_in(ranking, before, key))
                else:
                    live.take(key)
                    self.assertEqual(live.tree(), taken_out(ranking, before, key))
                self.assertEqual(live.tree(), tree_of(ranking, tuple(member for member, _ in live.store)))

    def test_a_ranking_without_keys(self):
        live = Live((), ())
        for call in (lambda: live.put(0, 0), lambda: live.take(0), lambda: live.cut(0, 0), lambda: live.way(0)):
            self.assertIs(type(raised(call)), errors.InvalidKey)
        self.assertIs(type(raised(live.take_in, ())), errors.Refused)
        self.assertEqual([live.tree(), live.height(), live.changed(), live.moments(), live.deeds], [(), 0, (), [(0,)], []])


class Fields(unittest.TestCase):
    def test_the_fields_of_a_new_one(self):
        live = Live(RANKS, START)
        fields = [live.ranking, live.start, live.store, live.deeds, live.depth]
        self.assertEqual(repr(fields), repr([RANKS, START, START, [], 0]))
        low = LowLive(RANKS, START, 2)
        fields = [low.ranking, low.start, low.store, low.deeds, low.depth, low.bound]
        self.assertEqual(repr(fields), repr([RANKS, START, START, [], 0, 2]))
        self.assertFalse(hasattr(live, "bound"))
        self.assertIsInstance(low, Live)

    def test_deeds_are_a_new_list_at_each_reading(self):
        live = Live(RANKS, START)
        live.deeds.append(("take", 1))
        self.assertEqual(live.deeds, [])
        live.take(1)
        told = live.deeds
        told.clear()
        self.assertEqual(live.deeds, [("take", 1)])
        self.assertIsNot(live.deeds, live.deeds)
        live.moments().clear()
        self.assertEqual(live.moments(), [(0,), (1,)])
        self.assertEqual(live.undo(), ("take", 1))

    def test_moments_where_a_store_comes_again(self):
        live = Live(RANKS, START)
        for deed in [("put", 0, 1), ("take", 0), ("put", 0, 2), ("put", 0, 1), ("cut", 0, 0), ("put", 4, 1)]:
            do(live, deed)
        self.assertEqual(live.moments(), [(0, 2, 5), (1, 4), (3,), (6,)])
        live.undo()
        self.assertEqual(live.moments(), [(0, 2, 5), (1, 4), (3,)])

    def test_sixty_deeds(self):
        live = Live(RANKS, ())
        for at in range(60):
            live.put(at % 5, at)
        self.assertEqual([len(live.deeds), len(live.moments())], [60, 61])
        twin = live.twin()
        for at in range(59, -1, -1):
            self.assertEqual(live.undo(), ("put", at % 5, at))
        self.assertEqual([live.store, len(twin.deeds)], [(), 60])


class Would(unittest.TestCase):
    def test_values_that_are_nearly_deeds(self):
        for live in (Live(RANKS, START), LowLive(RANKS, START, 3)):
            live.put(0, 1)
            before = state_of(live)
            for value in [
                None, True, 0, "", "put", "undo", (), [], ["put", 1, 2], ["take", 1], ("put",), ("put", 1), ("put", 1, 2, 3),
                ("take",), ("take", 1, 2), ("cut", 1), ("cut", 1, 2, 3), ("cut",), ("take_in",), ("take_in", (), ()),
                ("undo",), ("begin",), ("keep",), ("drop",), ("twin",), ("would", ("take", 1)), ("Put", 1, 2), ("", 1),
                (None, 1), (1, 2), ("in", ()), ("way", 1), (("put", 1, 2),), OwnTuple(("put", 1, 2)), (OwnString("take"), 1),
                (["take"], 1), ("take in", ()), ("__init__", RANKS, ()), tuple(range(3000)), "take" * 5000, {"take": 1},
            ]:
                error = raised(live.would, value)
                self.assertIs(type(error), errors.InvalidDeeds, value)
                self.assertEqual(repr(error.index), "0")
                self.assertEqual(state_of(live), before)

    def test_what_the_methods_would_raise(self):
        live = Live(RANKS, START)
        before = state_of(live)
        for deed, wanted in [
            (("put", 5, 1), errors.InvalidKey), (("put", None, None), errors.InvalidKey), (("put", True, 1), errors.InvalidKey),
            (("put", 1, True), errors.InvalidWorth), (("put", 1, 10 ** 9), errors.InvalidWorth),
            (("put", 1, 7), errors.Refused), (("take", 5), errors.InvalidKey), (("take", [1]), errors.InvalidKey),
            (("take", 0), errors.Refused), (("cut", 0, 5), errors.InvalidKey), (("cut", -1, 0), errors.InvalidKey),
            (("cut", 4, 4), errors.Refused), (("take_in", None), errors.InvalidStore),
            (("take_in", ((5, 1),)), errors.InvalidStore), (("take_in", [(1, 1)]), errors.InvalidStore),
            (("take_in", START), errors.Refused),
        ]:
            self.assertIs(type(raised(live.would, deed)), wanted, deed)
            self.assertEqual(state_of(live), before)

    def test_each_deed(self):
        live = Live(RANKS, START)
        before = state_of(live)
        self.assertEqual(live.would(("put", 4, 1)), (((1, 7), (3, 0), (4, 1)), 3))
        self.assertEqual(live.would(("take", 1)), (((3, 0),), 1))
        self.assertEqual(live.would(("cut", 4, 0)), ((), 0))
        self.assertEqual(live.would(("take_in", ((0, 1), (1, 7)))), (((0, 1), (1, 7)), 2))
        self.assertEqual(state_of(live), before)
        self.assertEqual(live.would(deed=("put", 1, 8)), (((1, 8), (3, 0)), 2))


class Spans(unittest.TestCase):
    def test_one_within_another(self):
        live = Live(RANKS, ())
        live.put(0, 0)
        live.begin()
        live.put(1, 1)
        live.begin()
        live.put(2, 2)
        self.assertEqual([live.depth, live.drop(), live.depth, live.deeds], [2, None, 1, [("put", 0, 0), ("put", 1, 1)]])
        live.begin()
        live.put(3, 3)
        self.assertEqual([live.keep(), live.depth, len(live.deeds)], [None, 1, 3])
        self.assertEqual([live.drop(), live.depth, live.deeds, live.store], [None, 0, [("put", 0, 0)], ((0, 0),)])
        self.assertEqual(live.moments(), [(0,), (1,)])

    def test_undo_at_the_beginning_of_a_span(self):
        live = Live(RANKS, ())
        self.assertIs(type(raised(live.undo)), errors.NothingToUndo)
        live.put(0, 0)
        live.begin()
        self.assertIs(type(raised(live.undo)), errors.NothingToUndo)
        live.put(1, 1)
        live.begin()
        self.assertIs(type(raised(live.undo)), errors.NothingToUndo)
        self.assertEqual(live.deeds, [("put", 0, 0), ("put", 1, 1)])
        live.keep()
        self.assertEqual(live.undo(), ("put", 1, 1))
        self.assertIs(type(raised(live.undo)), errors.NothingToUndo)
        live.drop()
        self.assertEqual(live.undo(), ("put", 0, 0))
        self.assertIs(type(raised(live.undo)), errors.NothingToUndo)

    def test_undo_behind_keep_and_drop(self):
        live = Live(RANKS, ())
        live.begin()
        live.put(0, 0)
        live.put(1, 1)
        live.keep()
        self.assertEqual([live.undo(), live.undo()], [("put", 1, 1), ("put", 0, 0)])
        live.put(2, 2)
        live.begin()
        live.take(2)
        live.drop()
        self.assertEqual([live.store, live.undo(), live.store], [((2, 2),), ("put", 2, 2), ()])

    def test_no_span(self):
        live = Live(RANKS, START)
        for _ in range(2):
            self.assertIs(type(raised(live.keep)), errors.NoSpan)
            self.assertIs(type(raised(live.drop)), errors.NoSpan)
            live.begin()
            live.take(1)
            live.drop()
        self.assertEqual([live.store, live.deeds, live.depth], [START, [], 0])

    def test_twelve_spans(self):
        live = Live(RANKS, ())
        for at in range(12):
            live.begin()
            live.put(0, at)
        self.assertEqual(live.depth, 12)
        for at in range(11, 5, -1):
            live.drop()
            self.assertEqual(live.depth, at)
        self.assertEqual(live.store, ((0, 5),))
        for _ in range(6):
            live.keep()
        self.assertEqual([live.depth, len(live.deeds)], [0, 6])


class Twins(unittest.TestCase):
    def test_a_twin_is_independent(self):
        for live in (Live(RANKS, START), LowLive(RANKS, START, 4)):
            live.put(0, 1)
            live.begin()
            live.put(0, 2)
            twin = live.twin()
            self.assertIs(type(twin), type(live))
            self.assertEqual([answers_of(twin), twin.depth, live.depth], [answers_of(live), 0, 1])
            self.assertIs(twin == live, True)
            self.assertEqual(getattr(twin, "bound", None), getattr(live, "bound", None))
            before = state_of(live)
            twin.take(1)
            twin.begin()
            twin.undo() if twin.depth == 0 else twin.put(4, 4)
            self.assertEqual(state_of(live), before)
            twin.drop()
            self.assertEqual([twin.undo(), twin.undo(), twin.undo()], [("take", 1), ("put", 0, 2), ("put", 0, 1)])
            self.assertEqual(state_of(live), before)
            told = state_of(twin)
            live.drop()
            live.take(3)
            self.assertEqual(state_of(twin), told)

    def test_equal_ones(self):
        def with_deeds(*deeds, ranking=RANKS, start=START, bound=None):
            live = made(ranking, start, bound)
            for deed in deeds:
                do(live, deed)
            return live

        take, back = ("take", 1), ("put", 1, 7)
        kinds = [with_deeds(), with_deeds(take), with_deeds(take, back), with_deeds(("cut", 1, 1)),
                 with_deeds(ranking=(5, 40, 12, 33, 8)), with_deeds(ranking=RANKS[:4]), with_deeds(start=((1, 7), (3, 1))),
                 with_deeds(bound=3), with_deeds(bound=4), with_deeds(take, bound=3), with_deeds(("cut", 1, 2)),
                 with_deeds(start=((3, 0),)), with_deeds(("cut", 2, 1)), with_deeds(take, back, bound=3),
                 with_deeds(ranking=(5, 40, 12, 33, 8), bound=3), with_deeds(start=((1, 7), (3, 1)), bound=3)]
        for at, one in enumerate(kinds):
            for by, other in enumerate(kinds):
                self.assertIs(one == other, at == by, (at, by))
                self.assertIs(one != other, at != by)
            self.assertIs(one == one.twin(), True)
            self.assertIs(one != one.twin(), False)
            for other in (None, 0, (), "live", RANKS, [], {}, object(), START, one.deeds, Live, OwnLive(RANKS, START)):
                self.assertIs(one == other, False)
                self.assertIs(one != other, True)
                self.assertIs(other == one, False)

    def test_spans_are_left_aside(self):
        one, other = Live(RANKS, START), Live(RANKS, START)
        one.begin()
        self.assertIs(one == other, True)
        one.take(1)
        self.assertIs(one == other, False)
        other.take(1)
        self.assertIs(one == other, True)
        other.undo()
        one.drop()
        self.assertIs(one != other, False)

    def test_a_run_of_deeds_that_ends_where_it_began_is_not_forgotten(self):
        one, other = Live(RANKS, START), Live(RANKS, START)
        one.put(0, 1)
        one.take(0)
        self.assertEqual(one.store, other.store)
        self.assertIs(one == other, False)


if __name__ == "__main__":
    unittest.main()
