import unittest

from maskpaint.errors import BadHouse, BadLot, BadMap, BadNumber
from maskpaint.maps import bare_rows, count_paintings, is_good, left_out, most_mutual, near, need
from tests import plain, wrong
from tests.cases import PaintCase
from tests.towns import CROWN, EMPTY, FULL, LARGER, LINE, MIXED_LINE, ONE, RING, SMALL, STAR, ring_of


class TestExamples(PaintCase):
    def test_line_of_four(self):
        line = (4, ((0, 1), (1, 2), (2, 3)))
        self.assertEqual(
            [bare_rows(line), is_good(line), left_out(line), need(line, (0, 1, 2, 3)),
             count_paintings(line, 3), most_mutual(line), near(line, 1)],
            [((0, 1, 2, 3),), False, ((0,), (1,), (2,), (3,)), 2, 24, ((0, 1), (1, 2), (2, 3)), (0, 2)])

    def test_wrong_pairs(self):
        error = self.fails(BadMap, need, (2, ((1, 0),)), ())
        self.assertEqual(error.part, "pairs")


class TestNear(PaintCase):
    def test_told(self):
        self.same_kind(near(ONE, 0), ())
        self.same_kind(near(STAR, 0), (1, 2, 3))
        self.same_kind(near(STAR, 3), (0,))
        self.same_kind(near(FULL, 3), (0, 1, 2, 4, 5, 6))
        self.same_kind(near(EMPTY, 6), ())

    def test_each_house(self):
        for town in SMALL + LARGER:
            for house in range(town[0]):
                self.same_kind(near(town, house), plain.near(town, house))


class TestNeed(PaintCase):
    def test_told(self):
        self.same_kind(need(ONE, ()), 0)
        self.same_kind(need(ONE, (0,)), 1)
        self.same_kind(need(EMPTY, (0, 1, 2, 3, 4, 5, 6)), 1)
        self.same_kind(need(FULL, (0, 1, 2, 3, 4, 5, 6)), 7)
        self.same_kind(need(FULL, (1, 4, 6)), 3)
        self.same_kind(need(ring_of(7), (0, 1, 2, 3, 4, 5, 6)), 3)
        self.same_kind(need(ring_of(7), (0, 1, 2, 4, 5, 6)), 2)
        self.same_kind(need(CROWN, (0, 1, 2, 3, 4, 5)), 2)

    def test_each_lot_of_small_maps(self):
        for town in SMALL:
            for lot in plain.lots_of(town):
                self.same_kind(need(town, lot), plain.need(town, lot))

    def test_all_houses_of_larger_maps(self):
        for town in LARGER:
            wanted = next(k for k in range(8) if plain.count_paintings(*town, k))
            self.same_kind(need(town, tuple(range(town[0]))), wanted)


class TestCountPaintings(PaintCase):
    def test_told(self):
        self.same_kind(count_paintings(ONE, 0), 0)
        self.same_kind(count_paintings(ONE, 9), 9)
        self.same_kind(count_paintings(EMPTY, 0), 0)
        self.same_kind(count_paintings(EMPTY, 9), 4782969)
        self.same_kind(count_paintings(FULL, 6), 0)
        self.same_kind(count_paintings(FULL, 7), 5040)
        self.same_kind(count_paintings(FULL, 9), 181440)
        self.same_kind(count_paintings(RING, 3), 18)

    def test_all_paintings_tried_on_small_maps(self):
        for town in SMALL:
            for paints in range(5):
                wanted = plain.paintings(town, range(town[0]), paints)
                self.same_kind(count_paintings(town, paints), wanted)

    def test_each_number_of_paints(self):
        for town in SMALL + LARGER[::3]:
            for paints in range(10):
                self.same_kind(count_paintings(town, paints), plain.count_paintings(*town, paints))


class TestMostMutual(PaintCase):
    def test_told(self):
        self.same_kind(most_mutual(ONE), ((0,),))
        self.same_kind(most_mutual(EMPTY), ((0,), (1,), (2,), (3,), (4,), (5,), (6,)))
        self.same_kind(most_mutual(FULL), ((0, 1, 2, 3, 4, 5, 6),))

    def test_only_the_greatest(self):
        # (3, 4) is no part of a greater lot, but there are greater ones.
        town = (5, ((0, 1), (0, 2), (1, 2), (3, 4)))
        self.same_kind(most_mutual(town), ((0, 1, 2),))

    def test_each_map(self):
        for town in SMALL + LARGER:
            self.same_kind(most_mutual(town), plain.most_mutual(town))


class TestBareRows(PaintCase):
    def test_told(self):
        self.same_kind(bare_rows(ONE), ())
        self.same_kind(bare_rows(RING), ())
        self.same_kind(bare_rows(STAR), ())
        self.same_kind(bare_rows(FULL), ())
        self.same_kind(
            bare_rows(ring_of(5)), ((0, 1, 2, 3), (0, 4, 3, 2), (1, 0, 4, 3), (1, 2, 3, 4), (2, 1, 0, 4)))
        self.same_kind(
            bare_rows(MIXED_LINE), ((0, 4, 1, 6), (1, 4, 0, 3), (1, 6, 2, 5), (2, 6, 1, 4)))

    def test_each_map(self):
        for town in SMALL + LARGER:
            rows = plain.bare_rows(town)
            self.same_kind(bare_rows(town), rows)
            self.assertIs(is_good(town), rows == ())


class TestLeftOut(PaintCase):
    def test_told(self):
        self.same_kind(left_out(ONE), ((),))
        self.same_kind(left_out(FULL), ((),))
        self.same_kind(left_out(MIXED_LINE), ((1,),))
        self.assertEqual(len(left_out(ring_of(5))), 10)

    def test_each_map(self):
        for town in SMALL + LARGER:
            self.same_kind(left_out(town), plain.left_out(town))


class TestWrongArguments(PaintCase):
    def test_maps(self):
        calls = (
            lambda town: near(town, 0), lambda town: need(town, ()), most_mutual, bare_rows, is_good,
            left_out, lambda town: count_paintings(town, 3))
        self.fails_for_no_maps(calls)

    def test_houses(self):
        self.fails_for_each(BadHouse, wrong.HOUSES, lambda house: near(LINE, house))
        self.fails(BadHouse, near, ONE, 1)
        self.fails(BadHouse, near, FULL, 7)

    def test_lots(self):
        self.fails_for_each(BadLot, wrong.LOTS, lambda lot: need(LINE, lot))
        self.fails(BadLot, need, ONE, (0, 1))
        self.fails(BadLot, need, FULL, (0, 1, 2, 3, 4, 5, 6, 7))

    def test_numbers(self):
        self.fails_for_each(BadNumber, wrong.NUMBERS, lambda paints: count_paintings(LINE, paints))

    def test_leftmost_error_first(self):
        self.assertEqual(self.fails(BadMap, near, None, None).part, "map")
        self.assertEqual(self.fails(BadMap, near, (9, None), 9).part, "houses")
        self.assertEqual(self.fails(BadMap, need, (2, ((0, 2),)), (2, 1)).part, "pairs")
        self.assertEqual(self.fails(BadMap, count_paintings, (0, 0), 10).part, "houses")

    def test_arguments_are_not_changed(self):
        town, lot = [2, [[0, 1]]], [1, 0]
        self.fails(BadMap, need, town, lot)
        self.fails(BadMap, need, (2, town), lot)
        self.fails(BadLot, need, (2, ()), lot)
        self.assertEqual((town, lot), ([2, [[0, 1]]], [1, 0]))


if __name__ == "__main__":
    unittest.main()
