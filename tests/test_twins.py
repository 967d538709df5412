import unittest
from itertools import permutations

from maskpaint.errors import BadLot, BadMap, TooMany
from maskpaint.maps import is_good, near
from maskpaint.twins import may_come, shows_twin_row, twin_row, twins, with_house
from tests import plain, plain_twins, wrong
from tests.cases import PaintCase
from tests.drawn import bent
from tests.towns import CROWN, DRAWN, DRAWN_TREES, EMPTY, FULL, LARGER, LINE, ONE, RING, SMALL, STAR, line_of, ring_of

GOOD = [plain.map_of(value) for value in DRAWN_TREES]
SIX = (6, ((0, 1), (0, 5), (1, 5), (2, 3)))
NO_LOTS_OF_SEVEN = [lot for lot in wrong.LOTS if lot not in ((4,), (0, 4), (0, 1, 2, 3, 4))] + [(7,), (0, 7)]
CALLS = (
    twins, twin_row, lambda town: shows_twin_row(town, None), lambda town: with_house(town, ()), may_come)


class TestExamples(PaintCase):
    def test_line_star_and_pair(self):
        line, star = (4, ((0, 1), (1, 2), (2, 3))), (4, ((0, 1), (0, 2), (0, 3)))
        self.assertEqual(
            [twins(star), twins(line), twin_row(line), shows_twin_row(star, (0, 1, 2, 3)),
             with_house((2, ((0, 1),)), (0,)), may_come((2, ((0, 1),))), may_come(line)],
            [((1, 2, "apart"), (1, 3, "apart"), (2, 3, "apart")), (), None, True, (3, ((0, 1), (0, 2))),
             ((), (0,), (0, 1), (1,)), ()])

    def test_seven_houses_are_too_many(self):
        self.same_kind(self.fails(TooMany, may_come, (7, ())).most, 7)


class TestTwins(PaintCase):
    def test_told(self):
        self.same_kind(twins(ONE), ())
        self.same_kind(twins((2, ())), ((0, 1, "apart"),))
        self.same_kind(twins((2, ((0, 1),))), ((0, 1, "near"),))
        self.same_kind(twins(line_of(3)), ((0, 2, "apart"),))
        self.same_kind(twins(RING), ((0, 2, "apart"), (1, 3, "apart")))
        self.same_kind(twins((4, ((0, 3), (1, 2)))), ((0, 3, "near"), (1, 2, "near")))
        self.same_kind(twins((3, ((1, 2),))), ((1, 2, "near"),))
        self.same_kind(twins((5, ((0, 1), (1, 2), (2, 3), (2, 4)))), ((3, 4, "apart"),))
        self.same_kind(twins(ring_of(5)), ())

    def test_seven_houses(self):
        pairs = FULL[1]
        self.same_kind(twins(FULL), tuple(pair + ("near",) for pair in pairs))
        self.same_kind(twins(EMPTY), tuple(pair + ("apart",) for pair in pairs))

    def test_each_map(self):
        for town in SMALL + LARGER + GOOD:
            self.same_kind(twins(town), plain_twins.twins(town))


class TestTwinRow(PaintCase):
    def test_told(self):
        self.same_kind(twin_row(ONE), (0,))
        self.assertIn(twin_row((2, ())), ((0, 1), (1, 0)))
        self.assertIsNone(twin_row(LINE))
        self.assertIsNone(twin_row(ring_of(7)))
        self.assertEqual(sorted(twin_row(FULL)), [0, 1, 2, 3, 4, 5, 6])
        self.assertEqual(sorted(twin_row(EMPTY)), [0, 1, 2, 3, 4, 5, 6])

    def test_there_is_none_just_for_maps_with_a_bare_row(self):
        for town in SMALL + LARGER + GOOD:
            row = twin_row(town)
            self.assertIs(row is None, plain.bare_rows(town) != ())
            if row is not None:
                self.assertIs(type(row), tuple)
                self.assertTrue(all(type(house) is int for house in row))
                self.assertEqual(sorted(row), list(plain.houses_of(town)))
                self.assertTrue(plain_twins.is_twin_row(town, row))

    def test_no_other_rows_than_the_document_has(self):
        # As the program's None, so the plain trial's list of all rows.
        for town in SMALL:
            self.assertEqual(plain_twins.twin_rows(town) == [], plain.bare_rows(town) != ())


class TestShowsTwinRow(PaintCase):
    def check_rows(self, town, rows):
        for row in rows:
            wanted = len(row) == town[0] and plain_twins.is_twin_row(town, row)
            self.assertIs(shows_twin_row(town, row), wanted, (town, row))
        self.assertIs(shows_twin_row(town, None), plain.bare_rows(town) != ())
        self.assertIs(shows_twin_row(town, twin_row(town)), True)

    def test_told(self):
        self.assertIs(shows_twin_row(STAR, (0, 1, 2, 3)), True)
        self.assertIs(shows_twin_row(STAR, (3, 0, 1, 2)), True)
        self.assertIs(shows_twin_row(STAR, (3, 1, 0, 2)), False)
        # Houses 1 and 0 are twins as long as nobody else has come; house 2 is then one of 1.
        self.assertIs(shows_twin_row(RING, (1, 0, 3, 2)), True)
        self.assertIs(shows_twin_row((3, ((0, 1),)), (0, 1, 2)), False)
        self.assertIs(shows_twin_row((3, ((0, 1),)), (0, 2, 1)), True)
        self.assertIs(shows_twin_row(LINE, (0, 1, 2, 3)), False)
        self.assertIs(shows_twin_row(LINE, None), True)
        self.assertIs(shows_twin_row(STAR, None), False)
        self.assertIs(shows_twin_row(ONE, (0,)), True)
        self.assertIs(shows_twin_row(ONE, ()), False)

    def test_each_coming_of_small_maps(self):
        for town in SMALL:
            self.check_rows(town, plain.comings(town))

    def test_rows_of_larger_maps(self):
        for town in DRAWN + GOOD + [CROWN, line_of(5), EMPTY, FULL]:
            rows = list(permutations(plain.houses_of(town)))
            self.check_rows(town, rows[::max(1, len(rows) // 150)] + list(plain.comings(town)[:30]))

    def test_rows_bent_at_one_place(self):
        for town in (ONE, STAR, RING, (3, ((0, 1),)), GOOD[0], (4, ((0, 3), (1, 2)))):
            rows = {repr(row) for row in plain_twins.twin_rows(town)}
            for value in bent(twin_row(town)):
                self.assertIs(shows_twin_row(town, value), repr(value) in rows, (town, value))

    def test_values_of_all_kinds(self):
        values = wrong.COMINGS + wrong.TREES + (
            (), (0,), (0, 1), (0, 1, 2), [0, 1, 2, 3], "0123", "0 1 2 3", (0, 1, 2, True), (False, 1, 2, 3),
            (0, True, 2, 3), (0, 1, 2, "3"), (0, 1, 2, None), (0, 1, 2, 4), (-1, 0, 1, 2), (0, 1, 2, 2),
            ((0, 1, 2, 3),), (0, 1, 2, (3,)), (0, 1, 2, [3]), (0, 1, 2, {}), {0: 0, 1: 1, 2: 2, 3: 3},
            (0, 1, 2, wrong.HUGE), (wrong.nested(3000),) * 4, (0, 1, 2, 3, 4), (0, 1, 2, 3, 0))
        for at, value in enumerate(values):
            with self.subTest(at=at):
                self.assertIs(shows_twin_row(STAR, value), False)
                self.assertIs(shows_twin_row(LINE, value), value is None)


class TestWithHouse(PaintCase):
    def test_told(self):
        self.same_kind(with_house(ONE, ()), (2, ()))
        self.same_kind(with_house(ONE, (0,)), (2, ((0, 1),)))
        self.same_kind(with_house(LINE, (0, 3)), (5, ((0, 1), (0, 4), (1, 2), (2, 3), (3, 4))))
        self.same_kind(with_house(SIX, (1, 4)), (7, ((0, 1), (0, 5), (1, 5), (1, 6), (2, 3), (4, 6))))
        self.same_kind(with_house((6, ()), ()), EMPTY)

    def test_each_lot(self):
        for town in SMALL + [town for town in LARGER + GOOD if town[0] < 7]:
            for lot in plain.lots_of(town):
                grown = with_house(town, lot)
                self.same_kind(grown, plain_twins.with_house(town, lot))
                self.assertEqual(near(grown, town[0]), lot)

    def test_seven_houses(self):
        for town in (FULL, EMPTY, line_of(7)):
            for lot in ((), (0,), (6,), (0, 1, 2, 3, 4, 5, 6)):
                self.same_kind(self.fails(TooMany, with_house, town, lot).most, 7)


class TestMayCome(PaintCase):
    def test_told(self):
        self.same_kind(may_come(ONE), ((), (0,)))
        self.same_kind(may_come(line_of(3)), ((), (0, 1), (0, 1, 2), (0, 2), (1,), (1, 2)))
        self.same_kind(may_come(LINE), ())
        self.same_kind(may_come((3, ((0, 1),))), ((), (0,), (0, 1), (0, 1, 2), (1,), (2,)))
        self.same_kind(may_come((6, ())), tuple(sorted(plain.lots_of((6, ())))))
        self.assertEqual(len(may_come((6, FULL[1][:1]))), 34)

    def test_each_map(self):
        for town in SMALL + [town for town in LARGER + GOOD if town[0] < 7] + [SIX]:
            lots = may_come(town)
            self.same_kind(lots, plain_twins.may_come(town))
            self.assertEqual(lots == (), plain.bare_rows(town) != ())
            self.assertTrue(all(is_good(with_house(town, lot)) for lot in lots))

    def test_seven_houses(self):
        for town in (FULL, EMPTY, line_of(7), ring_of(7)):
            self.same_kind(self.fails(TooMany, may_come, town).most, 7)


class TestWrongArguments(PaintCase):
    def test_maps(self):
        self.fails_for_no_maps(CALLS)

    def test_lots(self):
        self.fails_for_each(BadLot, wrong.LOTS, lambda lot: with_house(LINE, lot))
        self.fails(BadLot, with_house, ONE, (1,))

    def test_too_many_behind_all_others(self):
        for town in (FULL, EMPTY, line_of(7)):
            self.fails_for_each(BadLot, NO_LOTS_OF_SEVEN, lambda lot: with_house(town, lot))
        for lot in wrong.LOTS + ((),):
            self.assertEqual(self.fails(BadMap, with_house, (8, ()), lot).part, "houses")
            self.assertEqual(self.fails(BadMap, with_house, (7, ((6, 7),)), lot).part, "pairs")
        self.assertEqual(self.fails(BadMap, may_come, (7, [])).part, "pairs")

    def test_arguments_are_not_changed(self):
        value = [3, 2, 1, 0]
        self.assertIs(shows_twin_row(STAR, value), False)
        self.fails(BadLot, with_house, STAR, value)
        self.assertEqual(value, [3, 2, 1, 0])


if __name__ == "__main__":
    unittest.main()
