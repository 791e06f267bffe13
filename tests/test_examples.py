import unittest

from helpers import check_examples
from oneshape import reach, trees

PART_1 = """
>>> ranks = (5, 40, 12, 33, 7)
>>> [tree_of(ranks, (0, 2, 3, 4)), way(ranks, tree_of(ranks, (0, 2, 3, 4)), 1), above(ranks, (0, 1, 2, 3), 2), below(ranks, (0, 1, 2, 3), 3)]
[((((), 0, ()), 2, ()), 3, ((), 4, ())), (3, 2, 0), (1, 3), (2,)]
>>> [top_between(ranks, (0, 2, 4), 1, 3), top_between(ranks, (0, 4), 1, 3), least_ranking(ranks), put_in(ranks, ((), 3, ()), 1)]
[2, None, (0, 4, 2, 3, 1), ((), 1, ((), 3, ()))]
>>> [reach(ranks, tree_of(ranks, (0, 2, 3, 4)), 1), taken_out(ranks, tree_of(ranks, (0, 1, 3)), 1), longest_way(ranks, (0, 1, 2, 3, 4)), tree_text(((), 1, ((), 3, ())))]
[(1, 2, 3), (((), 0, ()), 3, ()), 3, '(-,1,(-,3,-))']
>>> tree_told("(-,2,(-,0")
raises InvalidText(8)
>>> tree_told("(-,23,(")
raises InvalidText(6)
"""


class Examples(unittest.TestCase):
    def test_part_1(self):
        check_examples(self, PART_1, {**vars(trees), **vars(reach)})


if __name__ == "__main__":
    unittest.main()
