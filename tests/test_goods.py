import unittest

from maskpaint.errors import BadMap, BadNumber
from maskpaint.goods import count_good, mends, other_side
from maskpaint.maps import bare_rows, is_good
from tests import plain, wrong
from tests.cases import PaintCase
from tests.towns import (
    CROWN, DRAWN_TREES, EMPTY, FULL, LARGER, LINE, MIXED_LINE, ONE, RING, SMALL, STAR, all_pairs, every_map,
    line_of, ring_of)

GOOD = [plain.map_of(value) for value in DRAWN_TREES]


def turned(town, pair):
    """The map in which a pair are neighbors if they weren't, and otherwise are none."""
    return town[0], tuple(sorted(set(town[1]) ^ {pair}))


class TestExamples(PaintCase):
    def test_good_maps(self):
        self.assertEqual(
            [[count_good(houses) for houses in range(1, 5)], len(mends((4, ((0, 1), (1, 2), (2, 3))))),
             other_side((3, ((0, 1),)))],
            [[1, 2, 8, 52], 6, (3, ((0, 2), (1, 2)))])

    def test_six_houses(self):
        self.fails(BadNumber, count_good, 6)


class TestCountGood(PaintCase):
    def test_told(self):
        for houses, many in ((1, 1), (2, 2), (3, 8), (4, 52), (5, 472)):
            self.same_kind(count_good(houses), many)

    def test_all_maps_tried(self):
        for houses in range(1, 6):
            self.assertEqual(count_good(houses), sum(not plain.bare_rows(town) for town in every_map(houses)))

    def test_numbers_that_are_wrong(self):
        self.fails_for_each(BadNumber, wrong.NUMBERS + (0, 6, 7, "5", (1,), [5], (5, ())), count_good)


class TestMends(PaintCase):
    def test_told(self):
        self.same_kind(mends(ONE), ())
        self.same_kind(mends((2, ())), ((0, 1),))
        self.same_kind(mends(LINE), all_pairs(4))
        self.same_kind(mends(EMPTY), all_pairs(7))
        self.same_kind(mends(FULL), all_pairs(7))
        # A ring of four without a pair of neighbors is a line of four.
        self.same_kind(mends(RING), ((0, 2), (1, 3)))
        self.same_kind(mends(STAR), all_pairs(4))
        self.same_kind(mends(CROWN), ())
        self.same_kind(mends(line_of(5)), ((1, 2), (2, 3)))
        self.same_kind(mends(ring_of(5)), ())
        self.same_kind(mends(ring_of(7)), ())

    def test_each_pair_turned(self):
        for town in SMALL + LARGER + GOOD:
            pairs = tuple(pair for pair in all_pairs(town[0]) if not plain.bare_rows(turned(town, pair)))
            self.same_kind(mends(town), pairs)

    def test_each_mend_leaves_a_good_map(self):
        for town in SMALL:
            for pair in all_pairs(town[0]):
                self.assertIs(is_good(turned(town, pair)), pair in mends(town))


class TestOtherSide(PaintCase):
    def test_told(self):
        self.same_kind(other_side(ONE), ONE)
        self.same_kind(other_side(EMPTY), FULL)
        self.same_kind(other_side(FULL), EMPTY)
        self.same_kind(other_side(LINE), (4, ((0, 2), (0, 3), (1, 3))))
        self.same_kind(other_side(STAR), (4, ((1, 2), (1, 3), (2, 3))))
        self.same_kind(other_side(RING), (4, ((0, 2), (1, 3))))

    def test_just_those_are_neighbors_who_were_not(self):
        for town in SMALL + LARGER + GOOD:
            houses, pairs = other_side(town)
            self.same_kind((houses, pairs), (town[0], tuple(sorted(set(all_pairs(houses)) - set(town[1])))))
            self.same_kind(other_side((houses, pairs)), town)

    def test_it_has_as_many_bare_rows(self):
        for town in SMALL + LARGER + GOOD:
            self.assertEqual(len(bare_rows(other_side(town))), len(bare_rows(town)))
            self.assertEqual(len(plain.bare_rows(other_side(town))), len(plain.bare_rows(town)))
            self.assertEqual(is_good(other_side(town)), is_good(town))

    def test_it_has_the_same_mends(self):
        for town in SMALL + [CROWN, MIXED_LINE]:
            self.assertEqual(mends(other_side(town)), mends(town))


class TestWrongArguments(PaintCase):
    def test_maps(self):
        self.fails_for_no_maps((mends, other_side))

    def test_arguments_are_not_changed(self):
        town = [3, [[0, 1]]]
        for call in (mends, other_side):
            self.fails(BadMap, call, town)
            self.fails(BadMap, call, tuple(town))
        self.assertEqual(town, [3, [[0, 1]]])


if __name__ == "__main__":
    unittest.main()
