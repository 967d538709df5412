import unittest

from maskpaint.comings import most_wasted, paints, shows_worst_lots, wasted, worst, worst_coming, worst_lots
from maskpaint.errors import BadComing, BadMap
from maskpaint.maps import is_good
from tests import plain, wrong
from tests.cases import PaintCase
from tests.towns import (
    CROWN, DRAWN_TREES, EMPTY, FULL, LARGER, LINE, MIXED_LINE, ONE, RING, SMALL, STAR, line_of, ring_of)

GOOD = [plain.map_of(value) for value in DRAWN_TREES]
# The plain way over all comings is slow for seven houses: some of them have to do.
TRIED = SMALL + LARGER[:20] + [line_of(5), ring_of(5), ring_of(6), CROWN, MIXED_LINE] + GOOD[:9]


class TestExamples(PaintCase):
    def test_line_of_four(self):
        line = (4, ((0, 1), (1, 2), (2, 3)))
        self.assertEqual(
            [paints(line, (0, 3, 1, 2)), wasted(line, (0, 3, 1, 2)), paints(line, (0, 1, 2, 3)),
             worst(line), most_wasted(line), len(worst_coming(line)),
             shows_worst_lots(line, ((0, 3), (1,), (2,))), len(worst_lots(line))],
            [(1, 1, 2, 3), 1, (1, 2, 1, 2), 3, 1, 4, True, 3])

    def test_a_house_twice(self):
        self.fails(BadComing, paints, (4, ((0, 1), (1, 2), (2, 3))), (0, 0))


class TestPaints(PaintCase):
    def test_told(self):
        self.same_kind(paints(LINE, ()), ())
        self.same_kind(paints(ONE, (0,)), (1,))
        self.same_kind(paints(STAR, (3, 2, 0, 1)), (1, 1, 2, 1))
        self.same_kind(paints(FULL, (6, 0, 5, 1, 4, 2, 3)), (1, 2, 3, 4, 5, 6, 7))
        self.same_kind(paints(EMPTY, (6, 0, 5, 1, 4, 2, 3)), (1, 1, 1, 1, 1, 1, 1))
        self.same_kind(paints(CROWN, (0, 3, 1, 4, 2, 5)), (1, 1, 2, 2, 3, 3))

    def test_each_coming_of_small_maps(self):
        for town in SMALL:
            for coming in plain.comings(town):
                self.same_kind(paints(town, coming), plain.paints(town, coming))

    def test_some_comings_of_larger_maps(self):
        for town in LARGER + GOOD:
            for coming in plain.comings(town)[::97]:
                self.same_kind(paints(town, coming), plain.paints(town, coming))


class TestWasted(PaintCase):
    def test_told(self):
        self.same_kind(wasted(LINE, ()), 0)
        self.same_kind(wasted(ONE, (0,)), 0)
        self.same_kind(wasted(CROWN, (0, 3, 1, 4, 2, 5)), 1)
        self.same_kind(wasted(CROWN, (0, 3, 1, 4)), 0)
        self.same_kind(wasted(FULL, (6, 5, 4, 3, 2, 1, 0)), 0)

    def test_only_the_houses_come_count_as_need(self):
        # The third of a trio never comes: the line of four needs two paints, not three.
        town = (5, ((0, 1), (0, 4), (1, 2), (1, 4), (2, 3)))
        self.same_kind(wasted(town, (0, 3, 1, 2)), 1)
        self.same_kind(wasted(town, (0, 3, 1, 2, 4)), 0)

    def test_each_coming_of_small_maps(self):
        for town in SMALL:
            for coming in plain.comings(town):
                wanted = len(set(plain.paints(town, coming))) - plain.need(town, coming)
                self.same_kind(wasted(town, coming), wanted)


class TestWorst(PaintCase):
    def test_told(self):
        told = (
            (ONE, 1, 0), (RING, 2, 0), (STAR, 2, 0), (EMPTY, 1, 0), (FULL, 7, 0), (LINE, 3, 1),
            (line_of(7), 3, 1), (MIXED_LINE, 3, 1), (ring_of(5), 3, 1), (ring_of(6), 3, 1), (CROWN, 3, 1))
        for town, most, waste in told:
            self.same_kind(worst(town), most)
            self.same_kind(most_wasted(town), waste)

    def test_waste_where_not_all_have_come(self):
        # All five need three paints, and three are the most: only the line without house 4 wastes.
        town = (5, ((0, 1), (0, 4), (1, 2), (1, 4), (2, 3)))
        self.same_kind(worst(town), 3)
        self.same_kind(most_wasted(town), 1)

    def test_all_comings_tried(self):
        for town in TRIED:
            told = [(coming, plain.paints(town, coming)) for coming in plain.comings(town)]
            most = max(len(set(row)) for _, row in told)
            needs = {lot: plain.need(town, lot) for lot in plain.lots_of(town)}
            self.same_kind(worst(town), most)
            waste = max(len(set(row)) - needs[tuple(sorted(coming))] for coming, row in told)
            self.same_kind(most_wasted(town), waste)

    def test_a_shortest_coming(self):
        for town in TRIED:
            used = [(len(coming), len(set(plain.paints(town, coming)))) for coming in plain.comings(town)]
            most = max(many for _, many in used)
            found = worst_coming(town)
            self.assertIs(type(found), tuple)
            self.assertIn(found, plain.comings(town))
            self.assertEqual(len(set(plain.paints(town, found))), most)
            self.assertEqual(len(found), min(size for size, many in used if many == most))

    def test_nothing_wasted_just_on_good_maps(self):
        for town in SMALL + LARGER + GOOD:
            self.assertEqual(most_wasted(town) == 0, is_good(town))


class TestWorstLots(PaintCase):
    def check_lots(self, town):
        found = worst_lots(town)
        self.assertIs(type(found), tuple)
        self.assertTrue(all(type(heap) is tuple for heap in found))
        self.assertEqual(len(found), worst(town))
        self.assertTrue(all(heap in plain.lots_of(town) for heap in found))
        self.assertTrue(plain.are_worst_lots(town, found))
        self.assertIs(shows_worst_lots(town, found), True)

    def test_each_map(self):
        for town in SMALL + LARGER + GOOD:
            self.check_lots(town)

    def test_never_more_such_heaps_than_worst(self):
        for town in SMALL + LARGER + GOOD:
            longest = max(len(row) for row in plain.rows_of_heaps(town))
            self.assertEqual(longest, worst(town))


class TestShowsWorstLots(PaintCase):
    def test_all_rows_of_heaps_of_small_maps(self):
        for town in SMALL:
            for row in plain.rows_of_heaps(town):
                self.assertIs(shows_worst_lots(town, row), len(row) == worst(town))

    def test_all_rows_of_lots_of_some_maps(self):
        for town in (ONE, (2, ((0, 1),)), (3, ((0, 1), (1, 2))), (3, ((0, 2),)), LINE, STAR):
            lots = plain.lots_of(town)
            pairs = [(one, other) for one in lots for other in lots]
            rows = [()] + [(lot,) for lot in lots] + pairs + [(*row, lot) for row in pairs for lot in lots]
            for row in rows:
                wanted = len(row) == worst(town) and plain.are_worst_lots(town, row)
                self.assertIs(shows_worst_lots(town, row), wanted)

    def test_told(self):
        for value in (((0, 3), (1,), (2,)), ((0, 3), (2,), (1,))):
            self.assertIs(shows_worst_lots(LINE, value), True)
        for value in (((0, 3), (1, 5), (2, 4)), ((0, 3), (1, 4), (2, 5)), ((0, 3), (1,), (2,))):
            self.assertIs(shows_worst_lots(ring_of(6), value), True)
        for value in (((0, 2), (1,), (3,)), ((0, 3), (1, 4), (2,), (5,)), ((0, 2, 4), (1, 3, 5))):
            self.assertIs(shows_worst_lots(ring_of(6), value), False)
        self.assertIs(shows_worst_lots(ONE, ((0,),)), True)
        self.assertIs(shows_worst_lots(EMPTY, ((0, 1, 2, 3, 4, 5, 6),)), True)
        self.assertIs(shows_worst_lots(EMPTY, ((4,),)), True)
        self.assertIs(shows_worst_lots(FULL, ((6,), (5,), (4,), (3,), (2,), (1,), (0,))), True)

    def test_values_that_are_wrong(self):
        values = (
            None, True, False, 3, "", "012", [], {}, (), [(0, 3), (1,), (2,)], ((0, 3), (1,)),
            ((0, 3), (1,), [2]), ([0, 3], (1,), (2,)), ((0, 3), 1, 2), ((0, 3), (1,), ()),
            ((), (0, 3), (1,), (2,)), ((0, 3), (1,), (2,), ()), ((3, 0), (1,), (2,)),
            ((0, 0), (1,), (2,)), ((0, 3), (1,), (2, 2)), ((0, 3), (True,), (2,)),
            ((False, 3), (1,), (2,)), ((0, 3), ("1",), (2,)), ((0, 3), (None,), (2,)),
            ((0, 3), ((1,),), (2,)), ((0, 3), ([1],), (2,)), ((0, 3), (1,), (4,)), ((0, 3), (1,), (-2,)),
            ((0, 3), (1,), (1,)), ((0, 3), (1,), (2, 3)), ((0, 3), (0, 2), (1,)), ((0,), (1,), (2,)),
            ((0, 1), (2,), (3,)), ((1,), (2,), (0, 3)), ((0, 3), (1,), None), ((0, 3), (1,), {}),
            ((0, 3), {1: 1}, (2,)), {(0, 3): 0, (1,): 1, (2,): 2}, "abc", wrong.nested(3000),
            (wrong.nested(3000), (1,), (2,)), ((0, 3), (1,), (wrong.HUGE,)))
        for at, value in enumerate(values):
            with self.subTest(at=at):
                self.assertIs(shows_worst_lots(LINE, value), False)


class TestWrongArguments(PaintCase):
    def test_maps(self):
        calls = (
            lambda town: paints(town, ()), lambda town: wasted(town, ()), worst, worst_coming, most_wasted,
            worst_lots, lambda town: shows_worst_lots(town, ()))
        self.fails_for_no_maps(calls)

    def test_comings(self):
        for function in (paints, wasted):
            self.fails_for_each(BadComing, wrong.COMINGS, lambda coming: function(LINE, coming))
            self.fails(BadComing, function, ONE, (1,))
            self.fails(BadComing, function, FULL, (0, 1, 2, 3, 4, 5, 6, 0))
            self.fails(BadComing, function, FULL, (7,))

    def test_leftmost_error_first(self):
        for function in (paints, wasted):
            self.assertEqual(self.fails(BadMap, function, (3, (), ()), (0, 0)).part, "map")
            self.assertEqual(self.fails(BadMap, function, (True, None), None).part, "houses")
        self.assertEqual(self.fails(BadMap, shows_worst_lots, (2, ((0, 0),)), None).part, "pairs")

    def test_arguments_are_not_changed(self):
        coming, heaps = [2, 1], [[0, 3], [1], [2]]
        self.fails(BadComing, paints, LINE, coming)
        self.fails(BadComing, wasted, LINE, coming)
        self.assertIs(shows_worst_lots(LINE, heaps), False)
        self.assertIs(shows_worst_lots(LINE, tuple(heaps)), False)
        self.assertEqual((coming, heaps), ([2, 1], [[0, 3], [1], [2]]))


if __name__ == "__main__":
    unittest.main()
