"""Maps of seven houses: no pairs, all pairs, a ring, a star, two heaps; and what was reckoned of them by hand."""

import unittest
from itertools import combinations

from maskpaint.benches import Bench
from maskpaint.comings import most_wasted, paints, shows_worst_lots, wasted, worst, worst_coming, worst_lots
from maskpaint.desks import Desk
from maskpaint.errors import TooMany
from maskpaint.goods import mends, other_side
from maskpaint.maps import bare_rows, count_paintings, is_good, left_out, most_mutual, need
from maskpaint.pots import by_pots, fewest_away, sent_away, shows_slip, slip
from maskpaint.tales import tale
from maskpaint.texts import map_text, read_map
from maskpaint.trees import map_of, shows_tree, tree, tree_need, tree_paintings
from maskpaint.twins import may_come, shows_twin_row, twin_row, twins, with_house
from maskpaint.wits import fool, shows_fool, waste_of
from tests.cases import PaintCase
from tests.drawn import MANY
from tests.towns import EMPTY, FULL, all_pairs, line_of, ring_of

EVERYONE = (0, 1, 2, 3, 4, 5, 6)
RING = ring_of(7)
STAR = (7, tuple((0, house) for house in range(1, 7)))
TWO_HEAPS = (7, tuple((one, other) for one in (0, 1, 2) for other in (3, 4, 5, 6)))
# Houses 0 and 3, 1 and 4, 2 and 5 are mates, and no neighbors.
MATES = (7, tuple(pair for pair in TWO_HEAPS[1] if pair[1] != pair[0] + 3))
# The map, the need, the most paints of the least rule, on a coming of so many, and the greatest waste.
TOLD = (
    (EMPTY, 1, 1, 1, 0), (FULL, 7, 7, 7, 0), (RING, 3, 3, 4, 1), (STAR, 2, 2, 2, 0), (TWO_HEAPS, 2, 2, 2, 0),
    (MATES, 2, 4, 6, 2), (line_of(7), 2, 3, 4, 1))


class TestSevenHouses(PaintCase):
    def test_needs(self):
        for town, wanted, *_ in TOLD:
            self.same_kind(need(town, EVERYONE), wanted)
            self.same_kind(need(town, ()), 0)
            self.same_kind(need(town, (6,)), 1)
        self.same_kind(need(RING, EVERYONE[:6]), 2)
        self.same_kind(need(STAR, EVERYONE[1:]), 1)

    def test_worst_comings(self):
        for town, _, most, houses, waste in TOLD:
            self.same_kind(worst(town), most)
            self.assertEqual(len(worst_coming(town)), houses)
            self.assertEqual(len(set(paints(town, worst_coming(town)))), most)
            self.same_kind(most_wasted(town), waste)
            self.assertEqual(len(worst_lots(town)), most)
            self.assertIs(shows_worst_lots(town, worst_lots(town)), True)
        self.same_kind(paints(MATES, (0, 3, 1, 4, 2, 5, 6)), (1, 1, 2, 2, 3, 3, 4))
        self.same_kind(wasted(MATES, (0, 3, 1, 4, 2, 5, 6)), 2)
        self.assertIs(shows_worst_lots(MATES, ((0, 3), (1, 4), (2, 5), (6,))), True)

    def test_wits(self):
        for town, _, _, _, waste in TOLD:
            self.same_kind(waste_of(town, ()), waste)
            self.assertEqual(fool(town, ()) is None, waste == 0)
            self.assertIs(shows_fool(town, (), fool(town, ())), True)
            self.assertEqual(len(fool(town, ()) or ()), 4 if waste else 0)
        # The wit of three hundred pairs tells the least paints.
        for town, _, _, _, waste in TOLD:
            self.same_kind(waste_of(town, MANY[:300]), waste)

    def test_paintings(self):
        for paints_told in range(10):
            left = paints_told - 1
            self.same_kind(count_paintings(EMPTY, paints_told), paints_told ** 7)
            self.same_kind(count_paintings(STAR, paints_told), paints_told * left ** 6)
            self.same_kind(count_paintings(RING, paints_told), left ** 7 - left)
            self.same_kind(count_paintings(line_of(7), paints_told), paints_told * left ** 6)
            falling = 1
            for paint in range(7):
                falling *= max(paints_told - paint, 0)
            self.same_kind(count_paintings(FULL, paints_told), falling)
        self.assertEqual([count_paintings(TWO_HEAPS, k) for k in (1, 2, 3)], [0, 2, 66])

    def test_mutual_lots_and_bare_rows(self):
        self.same_kind(most_mutual(RING), ((0, 1), (0, 6), (1, 2), (2, 3), (3, 4), (4, 5), (5, 6)))
        self.same_kind(most_mutual(TWO_HEAPS), TWO_HEAPS[1])
        self.same_kind(most_mutual(STAR), STAR[1])
        self.assertEqual([len(bare_rows(row[0])) for row in TOLD[:5]], [0, 0, 7, 0, 0])
        self.assertEqual([is_good(row[0]) for row in TOLD], [True, True, False, True, True, False, False])
        self.same_kind(left_out(line_of(7)), ((3,),))
        self.assertEqual(len(left_out(RING)[0]), 2)

    def test_trees(self):
        self.same_kind(tree(STAR), ("all", (0, ("side", (1, 2, 3, 4, 5, 6)))))
        self.same_kind(tree(TWO_HEAPS), ("all", (("side", (0, 1, 2)), ("side", (3, 4, 5, 6)))))
        self.assertIsNone(tree(RING))
        self.assertIsNone(tree(MATES))
        for town in (EMPTY, FULL, STAR, TWO_HEAPS):
            self.assertIs(shows_tree(town, tree(town)), True)
            self.same_kind(map_of(tree(town)), town)
            self.same_kind(tree_need(tree(town)), need(town, EVERYONE))
            self.same_kind(tree_paintings(tree(town), 9), count_paintings(town, 9))

    def test_good_maps_and_texts(self):
        self.same_kind(other_side(STAR), (7, tuple(pair for pair in FULL[1] if pair[0] > 0)))
        self.assertEqual(len(bare_rows(other_side(RING))), 7)
        self.same_kind(mends(RING), ())
        self.same_kind(mends(STAR), FULL[1])
        for town, *_ in TOLD:
            self.same_kind(read_map(map_text(town)), town)

    def test_benches(self):
        bench = Bench(MATES)
        self.assertEqual([bench.come(house) for house in (0, 3, 1, 4, 2, 5, 6)], [1, 1, 2, 2, 3, 3, 4])
        self.same_kind(bench.waste, 2)
        self.assertEqual([bench.back() for _ in range(7)], [None] * 7)
        self.assertEqual([bench.come(house) for house in EVERYONE], [1, 1, 1, 2, 2, 2, 2])
        self.same_kind(bench.waste, 0)

    def test_desks(self):
        desk = Desk(MATES)
        self.assertEqual([desk.do(f"come {house}") for house in (0, 3, 1, 4, 2, 5, 6)], list("1122334"))
        self.assertEqual(
            [desk.do(word) for word in ("waste", "coming", "rule")], ["2", "0 3 1 4 2 5 6", "1 1 2 2 3 3 4"])
        self.assertEqual([desk.do("back") for _ in range(7)], ["done"] * 7)
        self.assertEqual([desk.do(f"paint {house} {7 - house}") for house in EVERYONE], ["done"] * 7)
        self.assertEqual(
            [desk.do(word) for word in ("waste", "paints", "rule")], ["5", "7 6 5 4 3 2 1", "1 1 1 2 2 2 2"])

    def test_twins(self):
        self.assertEqual(len(twins(STAR)), 15)
        self.assertEqual([len(twins(row[0])) for row in TOLD], [21, 21, 0, 15, 9, 0, 0])
        for town, *_ in TOLD:
            row = twin_row(town)
            self.assertEqual(row is not None, is_good(town))
            self.assertIs(shows_twin_row(town, row), True)
            self.assertIs(shows_twin_row(town, EVERYONE), town in (EMPTY, FULL, STAR))
        self.assertIs(shows_twin_row(TWO_HEAPS, (0, 3, 1, 2, 4, 5, 6)), True)
        self.assertIs(shows_twin_row(TWO_HEAPS, (0, 1, 3, 2, 4, 5, 6)), False)

    def test_a_seventh_house_and_an_eighth(self):
        self.same_kind(with_house((6, EMPTY[1]), ()), EMPTY)
        self.same_kind(with_house((6, all_pairs(6)), EVERYONE[:6]), FULL)
        self.same_kind(with_house(line_of(6), (5,)), line_of(7))
        self.same_kind(with_house(line_of(6), (0, 5)), RING)
        # Whoever comes to a star is a neighbor of the middle one, or of just all others, or of nobody.
        by_middle = [(0,) + lot for size in range(6) for lot in combinations(range(1, 6), size)]
        self.same_kind(may_come((6, STAR[1][:5])), tuple(sorted(by_middle + [(), (1, 2, 3, 4, 5)])))
        for town, *_ in TOLD:
            self.same_kind(self.fails(TooMany, with_house, town, EVERYONE).most, 7)
            self.same_kind(self.fails(TooMany, may_come, town).most, 7)

    def test_pots(self):
        coming = (0, 3, 1, 4, 2, 5, 6)
        self.same_kind(by_pots(MATES, coming, 2), (1, 1, 2, 2, None, None, None))
        self.same_kind(sent_away(MATES, coming, 2), (2, 5, 6))
        self.same_kind(sent_away(MATES, coming, 3), (6,))
        self.same_kind(sent_away(MATES, coming, 4), ())
        for town, least, *_ in TOLD:
            self.same_kind(fewest_away(town, EVERYONE, 0), 7)
            self.same_kind(fewest_away(town, EVERYONE, least), 0)
            self.same_kind(fewest_away(town, EVERYONE, 9), 0)
            self.assertGreater(fewest_away(town, EVERYONE, least - 1), 0)
            self.assertEqual(slip(town) is None, is_good(town))
            self.assertIs(shows_slip(town, slip(town)), True)
        self.assertEqual([fewest_away(row[0], EVERYONE, 1) for row in TOLD], [0, 6, 4, 1, 3, 3, 3])
        self.assertIs(shows_slip(MATES, ((0, 3, 1, 4), 2)), False)
        self.assertIs(shows_slip(MATES, ((0, 3, 4, 6), 2)), False)
        self.assertIs(shows_slip(MATES, ((0, 3, 1, 6), 2)), True)

    def test_tales(self):
        self.same_kind(
            tale(MATES, (), (0, 3, 1, 6)),
            "house 0 beside nobody: 1, least\nhouse 3 beside nobody: 1, least\nhouse 1 beside 3: 2, least\n"
            "house 6 beside 0 1: 3, least\npaints 3, needed 2\n")


if __name__ == "__main__":
    unittest.main()
