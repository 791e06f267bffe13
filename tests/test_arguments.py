"""Each function with wrong arguments, alone and together; by name; what stays as it was."""

import unittest

from argument_checks import ODD, ArgumentChecks
from helpers import hung_all, raised
from oneshape import errors, looks, pages, parted, reach, shapes, trees

RANKS = (5, 40, 12, 33, 7)
LEVELS = (0, 2, 0, 1, 0)
TREE = ((((), 0, ()), 2, ()), 3, ((), 4, ()))
OTHER_TREE = (((), 0, ()), 1, ((), 4, ()))
CONTENT = (0, 2, 3, 4)
PAGE = ((0, 2), 3, (4,))
TOLD = (((), 0, ((), 2, ())), ((), 4, ((), 5, ())))
RINGED = TOLD + (((), 0, ((), 1, ())), (((), 0, ()), 1, ()))
FEWER = (4, 2, 3)
GOOD = {
    "ranking": RANKS, "content": CONTENT, "tree": TREE, "other_tree": OTHER_TREE, "key": 2, "other_key": 1,
    "search_tree": TREE, "text": "(-,1,-)", "value": TREE, "number": 2, "count": 2, "size": 2, "keys": (0, 2, 3),
    "other_keys": (1, 3, 4), "order": (3, 2, 0, 4), "trees": TOLD, "contents": ((0, 2), (1,), ()), "levels": LEVELS,
    "page": PAGE, "store": ((0, 5), (2, -1)), "other_store": ((0, 5), (3, 0)),
}

FUNCTIONS = {
    trees.is_ranking: "value", trees.is_tree: "ranking value", trees.tree_of: "ranking content",
    trees.content_of: "ranking tree", trees.least_ranking: "ranking", trees.way: "ranking tree key",
    trees.above: "ranking content key", trees.below: "ranking content key",
    trees.top_between: "ranking content key other_key", trees.put_in: "ranking tree key",
    trees.taken_out: "ranking tree key", trees.is_search_tree: "value", trees.tree_text: "search_tree",
    trees.tree_told: "text",
    reach.part_of: "ranking tree key", reach.parts_of: "ranking tree", reach.behind: "ranking tree key",
    reach.reach: "ranking tree key", reach.longest_way: "ranking content",
    parted.parted: "ranking tree key", parted.joined: "ranking tree other_tree",
    parted.either_tree: "ranking tree other_tree", parted.common_tree: "ranking tree other_tree",
    parted.less_tree: "ranking tree other_tree", parted.unlike_tree: "ranking tree other_tree",
    parted.opened: "ranking tree other_tree", parted.fresh: "ranking tree other_tree",
    parted.opened_bounds: "keys other_keys", parted.opening_ranking: "keys other_keys number",
    shapes.all_trees: "keys", shapes.is_rank_order: "search_tree value", shapes.rank_orders: "search_tree",
    shapes.rank_order_at: "search_tree number", shapes.rank_order_index: "search_tree order",
    shapes.told_above: "trees", shapes.ring_of: "trees", shapes.orders_told: "trees",
    shapes.order_told: "trees number", shapes.surely_above: "trees", shapes.common_ranking: "trees",
    shapes.told_tree: "trees keys", shapes.trees_left: "trees keys", shapes.tells_all: "ranking contents",
    shapes.fewest_contents: "ranking", shapes.telling_contents: "ranking",
    pages.height: "levels content", pages.page_of: "levels content", pages.is_page: "levels value",
    pages.page_keys: "levels page", pages.page_lists: "levels content", pages.path_to: "levels content key",
    pages.page_put: "levels page key", pages.page_out: "levels page key", pages.page_changes: "levels content key",
    pages.cut: "ranking content size", pages.is_cut: "ranking size value",
    pages.cut_changes: "ranking content key size",
    looks.is_store: "ranking value", looks.differing: "ranking store other_store",
    looks.look_run: "ranking store other_store", looks.look_count: "ranking store other_store",
    looks.parting: "ranking store other_store", looks.most_parting: "ranking count", looks.hardest: "ranking count",
}
# Arguments of the right kinds that the function takes, where those of GOOD are refused.
FITTING = {trees.put_in: {"key": 1}, parted.joined: {"tree": ((), 0, ()), "other_tree": ((), 3, ((), 4, ()))},
           pages.page_put: {"key": 1}}

SEVEN = (0, 1, 2, 3, 4, 20, 23)
# Arguments of the right kinds for which the point tells an error, and this error.
OWN_ERRORS = [
    (trees.above, (RANKS, CONTENT, 1), errors.Refused("")), (trees.below, (RANKS, CONTENT, 1), errors.Refused("")),
    (trees.put_in, (RANKS, TREE, 2), errors.Refused("")), (trees.taken_out, (RANKS, TREE, 1), errors.Refused("")),
    (reach.part_of, (RANKS, TREE, 1), errors.Refused("")),
    (parted.joined, (RANKS, TREE, OTHER_TREE), errors.Refused("")),
    (parted.joined, (RANKS, ((), 3, ()), ((), 1, ())), errors.Refused("")),
    (shapes.all_trees, (SEVEN,), errors.TooMany(6)), (shapes.rank_order_at, (TREE, 3), errors.Refused("")),
    (shapes.orders_told, (RINGED,), errors.NoRanking((0, 1))), (shapes.order_told, (TOLD, 6), errors.Refused("")),
    (shapes.order_told, (RINGED, 0), errors.NoRanking((0, 1))),
    (shapes.order_told, (RINGED, 10 ** 89), errors.NoRanking((0, 1))),
    (shapes.surely_above, (RINGED,), errors.NoRanking((0, 1))),
    (shapes.common_ranking, (RINGED,), errors.NoRanking((0, 1))),
    (shapes.told_tree, (RINGED, (9,)), errors.NoRanking((0, 1))),
    (shapes.trees_left, (RINGED, ()), errors.NoRanking((0, 1))),
    (shapes.trees_left, (RINGED, SEVEN), errors.NoRanking((0, 1))),
    (shapes.trees_left, (TOLD, SEVEN), errors.TooMany(6)),
    (shapes.fewest_contents, (tuple(range(8)),), errors.TooMany(7)),
    (shapes.telling_contents, (tuple(range(24)),), errors.TooMany(7)),
    (pages.page_put, (LEVELS, PAGE, 2), errors.Refused("")), (pages.page_out, (LEVELS, PAGE, 1), errors.Refused("")),
]


LOTS = ODD + [0, 3, (1, 1), (2, 1), (-1,), (0, 2, 2), [0, 1], (0, 2.0), (0, "2")]
KEYS = ODD + [-1, 5, 23, 24, (), (0,), 2.0, RANKS]
STORES = ODD + [0, ((5, 1),), ((-1, 1),), ((0, 1), (0, 1)), ((1, 1), (0, 1)), ((0, True),), ((True, 0),), [(0, 1)],
                ([0, 1],), ((0,),), ((0, 1, 2),), ((0, 10 ** 9),), ((0, -10 ** 9),), ((0, None),), ((0, "1"),)]
TREES = ODD + [0, 3, (0,), ((), 5, ()), ((), -1, ()), ((), 2, ((), 3, ())), list(TREE), (((), 1, ()), 1, ()),
               ((), 3, ((), 1, ()))]
WRONG = {
    "ranking": (errors.InvalidRanking, ODD + [0, 3, (1, 1), (5, 40, 12, 33, 5), tuple(range(25)), list(RANKS)]),
    "content": (errors.InvalidContent, LOTS + [(5,), (0, 5), (23,)]),
    "tree": (errors.InvalidTree, TREES),
    "other_tree": (errors.InvalidTree, TREES),
    "key": (errors.InvalidKey, KEYS),
    "other_key": (errors.InvalidKey, KEYS),
    "search_tree": (errors.InvalidTree, ODD + [0, 3, (0,), ((), 24, ()), ((), -1, ()), ((), 3, ((), 1, ())),
                                               list(TREE), (((), 1, ()), 1, ())]),
    "text": (errors.InvalidText, [value for value in ODD if type(value) is not str] + [0, (), ("-",), b"-", TREE]),
    "number": (errors.InvalidCount, [value for value in ODD if value != 10 ** 89] + [-1, -7, 2.0, (2,), "2"]),
    "count": (errors.InvalidCount, ODD + [0, -1, 6, 24, 25, 2.0, (2,), "2"]),
    "size": (errors.InvalidCount, ODD + [0, -1, 25, 2.0, (2,), "2"]),
    "keys": (errors.InvalidContent, LOTS + [(24,), (0, 24), list(CONTENT)]),
    "other_keys": (errors.InvalidContent, LOTS + [(24,), (0, 24), list(CONTENT)]),
    "order": (errors.InvalidOrder, ODD + [(), (3, 2, 0), (2, 3, 0, 4), (3, 0, 2, 4), (3, 2, 0, 4, 4), [3, 2, 0, 4],
                                          (3, 2, False, 4), (3, 2, 0, 1), (0, 2, 3, 4), 3]),
    "trees": (errors.InvalidTrees, ODD + [(), TREE, [TREE], (TREE, None), ((),) * 9, (((), 24, ()),), (((), -1, ()),),
                                          (list(TREE),), (((), 3, ((), 1, ())),), (((), True, ()),), (hung_all(range(11)),),
                                          tuple(((), key, ((), key + 8, ())) for key in range(8)),
                                          (hung_all(range(10)), ((), 10, ())), 0]),
    "contents": (errors.InvalidContents, ODD + [((),) * 9, ((5,),), ((0, 5),), ((1, 0),), ((0, 0),), [(0, 1)], ((0,), 1),
                                                ([0],), ((True,),), (0, 1), 0, 3]),
    "levels": (errors.InvalidLevels, ODD + [0, (5,), (0, -1), (0, True), (0, None), (0,) * 25, list(LEVELS), (0, 2.0),
                                            (0, (0,)), 3]),
    "page": (errors.InvalidPage, ODD + [0, (1,), ((0, 2), 3, [4]), [(0, 2), 3, (4,)], ((0, 2), 3), ((0, 2), 1, (4,)),
                                        ((0, 2), 3, (5,)), ((0, True), 3, (4,)), ((2, 0), 3, (4,)), (PAGE,), (3,),
                                        ((0, 2), 3, (4,), 3, ()), (0, 2, 3, 4)]),
    "store": (errors.InvalidStore, STORES),
    "other_store": (errors.InvalidStore, STORES),
}


class Arguments(ArgumentChecks, unittest.TestCase):
    functions = FUNCTIONS
    good = GOOD
    fitting = FITTING
    wrong = WRONG
    own_errors = OWN_ERRORS
    with_lists = {"parts_of", "all_trees", "trees_left", "page_lists", "page_changes", "cut_changes", "look_run"}
    questions = 7

    def test_keys_contents_and_the_like_are_those_of_the_ranking_or_the_levels(self):
        outside = [("key", 3), ("other_key", 3), ("content", (3,)), ("tree", ((), 3, ())), ("other_tree", ((), 3, ())),
                   ("contents", ((0,), (3,))), ("page", (3,)), ("store", ((3, 1),)), ("other_store", ((3, 1),)),
                   ("count", 4)]
        good = {**GOOD, "ranking": FEWER, "levels": (0, 2, 0), "content": (0, 1, 2), "tree": ((), 0, ((), 2, ())),
                "other_tree": ((), 1, ()), "key": 2, "other_key": 0, "contents": ((0, 1),), "page": (0, 2),
                "store": ((0, 1),), "other_store": ((2, 1),), "count": 3, "size": 24}
        for function, parameters in FUNCTIONS.items():
            names = parameters.split()
            for name, value in outside:
                if name in names and {"ranking", "levels"} & set(names):
                    arguments = [{**good, name: value}[other] for other in names]
                    self.check_error(function, arguments, WRONG[name][0])

    def test_without_a_ranking_keys_go_up_to_23(self):
        far, whole = ((), 23, ()), tuple(range(24))
        self.assertEqual(trees.tree_text(far), "(-,23,-)")
        self.assertEqual(trees.tree_told("(-,23,-)"), far)
        self.assertEqual(shapes.all_trees((23,)), [far])
        self.assertEqual(shapes.rank_order_at(far, 0), (23,))
        self.assertEqual(shapes.order_told((far,), 0), (23,))
        self.assertEqual(shapes.told_tree((far,), (23,)), far)
        self.assertEqual(shapes.trees_left((far,), (23,)), [far])
        self.assertEqual(parted.opened_bounds(whole, (23,)), (1, 24))
        for function in (trees.tree_text, shapes.rank_orders):
            self.assertIs(type(raised(function, ((), 24, ()))), errors.InvalidTree)

    def test_bounds_that_are_still_good(self):
        ten = hung_all(range(10))
        self.assertEqual(shapes.orders_told((ten,) * 8), 1)
        self.assertEqual(shapes.orders_told(((),) * 8), 1)
        self.assertIs(shapes.tells_all((4, 5), ((0, 1),) * 8), True)
        self.assertEqual(pages.height((4,) * 24, (23,)), 4)
        self.assertEqual([pages.cut((4, 5), (0, 1), size)[0] for size in (1, 2, 24)], [(1,), (), ()])
        self.assertEqual(looks.hardest((4, 5), 2), (0, 1))
        self.assertEqual(looks.differing((4,), ((0, 999999999),), ((0, -999999999),)), (0,))

    def test_no_key_of_a_ranking_or_of_levels_without_keys(self):
        for function in (trees.way, trees.put_in, reach.reach, parted.parted, pages.path_to, pages.page_put,
                         pages.page_changes):
            self.assertIs(type(raised(function, (), (), 0)), errors.InvalidKey, function)
        self.assertIs(type(raised(pages.cut_changes, (), (), 0, 1)), errors.InvalidKey)
        self.assertIs(type(raised(looks.hardest, (), 1)), errors.InvalidCount)

    def test_the_other_argument_may_equal_the_first(self):
        self.assertEqual(trees.top_between(RANKS, CONTENT, 2, 2), 2)
        self.assertIsNone(trees.top_between(RANKS, CONTENT, 1, 1))
        self.assertEqual(parted.either_tree(RANKS, TREE, TREE), TREE)
        self.assertEqual(parted.unlike_tree(RANKS, TREE, TREE), ())
        self.assertEqual(parted.opened_bounds((1, 2), (1, 2)), (2, 2))
        self.assertEqual(looks.differing(RANKS, ((0, 5),), ((0, 5),)), ())

    def test_the_index_of_what_is_no_string_is_0(self):
        for value in WRONG["text"][1]:
            self.assertEqual(repr(raised(trees.tree_told, value).index), "0")


if __name__ == "__main__":
    unittest.main()
