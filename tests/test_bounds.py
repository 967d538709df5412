"""Maps of seven houses: no pairs, all pairs, a ring, a star, two heaps; and what was reckoned of them by hand."""

import unittest

from maskpaint.benches import Bench
from maskpaint.comings import most_wasted, paints, shows_worst_lots, wasted, worst, worst_coming, worst_lots
from maskpaint.goods import mends, other_side
from maskpaint.maps import bare_rows, count_paintings, is_good, left_out, most_mutual, need
from maskpaint.texts import map_text, read_map
from maskpaint.trees import map_of, shows_tree, tree, tree_need, tree_paintings
from maskpaint.wits import fool, shows_fool, waste_of
from tests.cases import PaintCase
from tests.drawn import MANY
from tests.towns import EMPTY, FULL, line_of, ring_of

EVERYONE = (0, 1, 2, 3, 4, 5, 6)
RING = ring_of(7)
STAR = (7, tuple((0, house) for house in range(1, 7)))
TWO_HEAPS = (7, tuple((one, other) for one in (0, 1, 2) for other in (3, 4, 5, 6)))
# Houses 0 and 3, 1 and 4, 2 and 5 are mates, and no neighbors.
MATES = (7, tuple(pair for pair in TWO_HEAPS[1] if pair[1] != pair[0] + 3))
# The map, the need, the most paints of the least rule, on a coming of so many, and the greatest waste.
TOLD = (
    (EMPTY, 1, 1, 1, 0), (FULL, 7, 7, 7, 0), (RING, 3, 3, 4, 1), (STAR, 2, 2, 2, 0), (TWO_HEAPS, 2, 2, 2, 0),
    (MATES, 2, 4, 6, 2), (line_of(7), 2, 3, 4, 1))


class TestSevenHouses(PaintCase):
    def test_needs(self):
        for town, wanted, *_ in TOLD:
            self.same_kind(need(town, EVERYONE), wanted)
            self.same_kind(need(town, ()), 0)
            self.same_kind(need(town, (6,)), 1)
        self.same_kind(need(RING, EVERYONE[:6]), 2)
        self.same_kind(need(STAR, EVERYONE[1:]), 1)

    def test_worst_comings(self):
        for town, _, most, houses, waste in TOLD:
            self.same_kind(worst(town), most)
            self.assertEqual(len(worst_coming(town)), houses)
            self.assertEqual(len(set(paints(town, worst_coming(town)))), most)
            self.same_kind(most_wasted(town), waste)
            self.assertEqual(len(worst_lots(town)), most)
            self.assertIs(shows_worst_lots(town, worst_lots(town)), True)
        self.same_kind(paints(MATES, (0, 3, 1, 4, 2, 5, 6)), (1, 1, 2, 2, 3, 3, 4))
        self.same_kind(wasted(MATES, (0, 3, 1, 4, 2, 5, 6)), 2)
        self.assertIs(shows_worst_lots(MATES, ((0, 3), (1, 4), (2, 5), (6,))), True)

    def test_wits(self):
        for town, _, _, _, waste in TOLD:
            self.same_kind(waste_of(town, ()), waste)
            self.assertEqual(fool(town, ()) is None, waste == 0)
            self.assertIs(shows_fool(town, (), fool(town, ())), True)
            self.assertEqual(len(fool(town, ()) or ()), 4 if waste else 0)
        # The wit of three hundred pairs tells the least paints.
        for town, _, _, _, waste in TOLD:
            self.same_kind(waste_of(town, MANY[:300]), waste)

    def test_paintings(self):
        for paints_told in range(10):
            left = paints_told - 1
            self.same_kind(count_paintings(EMPTY, paints_told), paints_told ** 7)
            self.same_kind(count_paintings(STAR, paints_told), paints_told * left ** 6)
            self.same_kind(count_paintings(RING, paints_told), left ** 7 - left)
            self.same_kind(count_paintings(line_of(7), paints_told), paints_told * left ** 6)
            falling = 1
            for paint in range(7):
                falling *= max(paints_told - paint, 0)
            self.same_kind(count_paintings(FULL, paints_told), falling)
        self.assertEqual([count_paintings(TWO_HEAPS, k) for k in (1, 2, 3)], [0, 2, 66])

    def test_mutual_lots_and_bare_rows(self):
        self.same_kind(most_mutual(RING), ((0, 1), (0, 6), (1, 2), (2, 3), (3, 4), (4, 5), (5, 6)))
        self.same_kind(most_mutual(TWO_HEAPS), TWO_HEAPS[1])
        self.same_kind(most_mutual(STAR), STAR[1])
        self.assertEqual([len(bare_rows(row[0])) for row in TOLD[:5]], [0, 0, 7, 0, 0])
        self.assertEqual([is_good(row[0]) for row in TOLD], [True, True, False, True, True, False, False])
        self.same_kind(left_out(line_of(7)), ((3,),))
        self.assertEqual(len(left_out(RING)[0]), 2)

    def test_trees(self):
        self.same_kind(tree(STAR), ("all", (0, ("side", (1, 2, 3, 4, 5, 6)))))
        self.same_kind(tree(TWO_HEAPS), ("all", (("side", (0, 1, 2)), ("side", (3, 4, 5, 6)))))
        self.assertIsNone(tree(RING))
        self.assertIsNone(tree(MATES))
        for town in (EMPTY, FULL, STAR, TWO_HEAPS):
            self.assertIs(shows_tree(town, tree(town)), True)
            self.same_kind(map_of(tree(town)), town)
            self.same_kind(tree_need(tree(town)), need(town, EVERYONE))
            self.same_kind(tree_paintings(tree(town), 9), count_paintings(town, 9))

    def test_good_maps_and_texts(self):
        self.same_kind(other_side(STAR), (7, tuple(pair for pair in FULL[1] if pair[0] > 0)))
        self.assertEqual(len(bare_rows(other_side(RING))), 7)
        self.same_kind(mends(RING), ())
        self.same_kind(mends(STAR), FULL[1])
        for town, *_ in TOLD:
            self.same_kind(read_map(map_text(town)), town)

    def test_benches(self):
        bench = Bench(MATES)
        self.assertEqual([bench.come(house) for house in (0, 3, 1, 4, 2, 5, 6)], [1, 1, 2, 2, 3, 3, 4])
        self.same_kind(bench.waste, 2)
        self.assertEqual([bench.back() for _ in range(7)], [None] * 7)
        self.assertEqual([bench.come(house) for house in EVERYONE], [1, 1, 1, 2, 2, 2, 2])
        self.same_kind(bench.waste, 0)


if __name__ == "__main__":
    unittest.main()
