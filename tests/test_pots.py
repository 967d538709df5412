import unittest

from maskpaint.comings import paints
from maskpaint.errors import BadComing, BadLot, BadNumber
from maskpaint.pots import by_pots, fewest_away, sent_away, shows_slip, slip
from tests import plain, plain_pots, wrong
from tests.cases import PaintCase
from tests.drawn import bent
from tests.plain_pots import POTS
from tests.towns import CROWN, DRAWN, DRAWN_TREES, EMPTY, FULL, LARGER, LINE, ONE, RING, SMALL, STAR, line_of, ring_of

GOOD = [plain.map_of(value) for value in DRAWN_TREES]
EVERYONE = (0, 1, 2, 3, 4, 5, 6)


class TestExamples(PaintCase):
    def test_line_and_star(self):
        line, star = (4, ((0, 1), (1, 2), (2, 3))), (4, ((0, 1), (0, 2), (0, 3)))
        self.assertEqual(
            [by_pots(star, (1, 0, 2), 1), sent_away(star, (0, 1, 2, 3), 1), fewest_away(star, (0, 1, 2, 3), 1),
             slip(star), shows_slip(line, ((0, 3, 1, 2), 2)), by_pots(line, (0, 3, 1, 2), 2)],
            [(1, None, 1), (1, 2, 3), 1, None, True, (1, 1, 2, None)])


class TestByPots(PaintCase):
    def test_who_is_sent_away_has_no_paint_for_those_that_come(self):
        self.same_kind(by_pots(line_of(3), (0, 1, 2), 1), (1, None, 1))
        self.same_kind(by_pots(line_of(5), (0, 1, 2, 3, 4), 1), (1, None, 1, None, 1))
        self.same_kind(by_pots(FULL, (6, 5, 4, 3, 2, 1, 0), 3), (1, 2, 3, None, None, None, None))
        self.same_kind(sent_away(FULL, (6, 5, 4, 3, 2, 1, 0), 3), (3, 2, 1, 0))
        self.same_kind(by_pots(ring_of(5), (0, 2, 1, 4, 3), 2), (1, 1, 2, 2, None))

    def test_no_pots(self):
        for town in (ONE, LINE, EMPTY, FULL):
            coming = tuple(reversed(range(town[0])))
            self.same_kind(by_pots(town, coming, 0), (None,) * town[0])
            self.same_kind(sent_away(town, coming, 0), coming)
            self.same_kind(by_pots(town, (), 0), ())
            self.same_kind(sent_away(town, (), 0), ())

    def test_one_pot(self):
        self.same_kind(by_pots(ONE, (0,), 1), (1,))
        self.same_kind(sent_away(ONE, (0,), 1), ())
        self.same_kind(by_pots(EMPTY, EVERYONE, 1), (1,) * 7)

    def test_as_many_pots_as_the_least_rule_uses(self):
        self.same_kind(by_pots(FULL, EVERYONE, 7), (1, 2, 3, 4, 5, 6, 7))
        self.same_kind(by_pots(FULL, EVERYONE, 6), (1, 2, 3, 4, 5, 6, None))
        for town in LARGER + GOOD:
            for coming in plain.comings(town)[-1::-301]:
                most = max(paints(town, coming))
                for pots in range(most, 10):
                    self.same_kind(by_pots(town, coming, pots), paints(town, coming))
                    self.same_kind(sent_away(town, coming, pots), ())
                self.assertIn(None, by_pots(town, coming, most - 1))

    def test_each_coming_of_small_maps(self):
        for town in SMALL:
            for coming in plain.comings(town):
                for pots in POTS:
                    self.same_kind(by_pots(town, coming, pots), plain_pots.by_pots(town, coming, pots))
                    self.same_kind(sent_away(town, coming, pots), plain_pots.sent_away(town, coming, pots))

    def test_some_comings_of_larger_maps(self):
        for at, town in enumerate(LARGER + GOOD):
            for coming in plain.comings(town)[at::97]:
                for pots in (1, 2, 3, 4):
                    self.same_kind(by_pots(town, coming, pots), plain_pots.by_pots(town, coming, pots))
                    self.same_kind(sent_away(town, coming, pots), plain_pots.sent_away(town, coming, pots))


class TestFewestAway(PaintCase):
    def test_told(self):
        for pots in POTS:
            self.same_kind(fewest_away(FULL, EVERYONE, pots), max(0, 7 - pots))
            self.same_kind(fewest_away(FULL, (0, 3, 6), pots), max(0, 3 - pots))
            self.same_kind(fewest_away(EMPTY, EVERYONE, pots), 0 if pots else 7)
            self.same_kind(fewest_away(ONE, (0,), pots), 0 if pots else 1)
            self.same_kind(fewest_away(STAR, (), pots), 0)
        self.assertEqual([fewest_away(ring_of(7), EVERYONE, pots) for pots in POTS], [7, 4, 1] + [0] * 7)
        self.assertEqual([fewest_away(line_of(7), EVERYONE, pots) for pots in (0, 1, 2)], [7, 3, 0])
        self.assertEqual([fewest_away(line_of(7), (0, 1, 4, 5), pots) for pots in (0, 1, 2)], [4, 2, 0])

    def test_each_lot_of_small_maps(self):
        for town in SMALL:
            needs = plain_pots.needs_of(town)
            for lot in plain.lots_of(town):
                for pots in POTS:
                    self.same_kind(fewest_away(town, lot, pots), plain_pots.fewest_away(needs, lot, pots))

    def test_some_lots_of_larger_maps(self):
        for at, town in enumerate([town for town in DRAWN if town[0] < 7] + [CROWN, line_of(5), ring_of(5)]):
            needs = plain_pots.needs_of(town)
            for lot in plain.lots_of(town)[at % 5::5]:
                for pots in (0, 1, 2, 3, 4, 5, 9):
                    self.same_kind(fewest_away(town, lot, pots), plain_pots.fewest_away(needs, lot, pots))


class TestSlip(PaintCase):
    def test_told(self):
        for town in (ONE, RING, STAR, EMPTY, FULL):
            self.assertIsNone(slip(town))
        for town in (LINE, line_of(7), ring_of(5), ring_of(7), CROWN):
            self.assertEqual((len(slip(town)[0]), slip(town)[1]), (4, 2))

    def test_there_is_one_just_for_maps_with_a_bare_row(self):
        for town in SMALL + LARGER + GOOD:
            found = slip(town)
            self.assertIs(found is not None, plain.bare_rows(town) != ())
            self.assertIs(shows_slip(town, found), True)
            self.assertIs(shows_slip(town, None), found is None)

    def check_slip(self, town, found):
        coming, pots = found
        self.assertEqual((type(found), type(coming), type(pots)), (tuple, tuple, int))
        self.assertTrue(all(type(house) is int for house in coming))
        self.assertIn(coming, plain.comings(town))
        self.assertLessEqual(plain.need(town, sorted(coming)), pots)
        self.assertNotEqual(plain_pots.sent_away(town, coming, pots), ())

    def test_some_of_all_that_there_are(self):
        for town in SMALL + [town for town in LARGER + GOOD if town[0] == 5]:
            slips, found = plain_pots.slips(town), slip(town)
            if slips:
                self.assertIn(found, slips)
                self.check_slip(town, found)
            else:
                self.assertIsNone(found)

    def test_larger_maps(self):
        for town in LARGER:
            if plain.bare_rows(town):
                self.check_slip(town, slip(town))
                self.assertEqual(len(slip(town)[0]), 4)


class TestShowsSlip(PaintCase):
    def check_each_pair(self, town, comings, pots_tried):
        slips = plain_pots.slips(town)
        for coming in comings:
            for pots in pots_tried:
                self.assertIs(shows_slip(town, (coming, pots)), (coming, pots) in slips, (town, coming, pots))
        self.assertIs(shows_slip(town, None), slips == [])

    def test_each_pair_of_small_maps(self):
        for town in SMALL:
            self.check_each_pair(town, plain.comings(town), range(-1, 12))

    def test_larger_maps(self):
        for town in (line_of(5), ring_of(5), DRAWN[0], DRAWN[4], GOOD[0], (5, ((0, 1), (1, 2), (2, 3)))):
            self.check_each_pair(town, plain.comings(town), (1, 2, 3))
        self.check_each_pair(CROWN, plain.comings(CROWN)[::3], (2, 3))

    def test_only_a_shortest(self):
        line = (5, ((0, 1), (1, 2), (2, 3)))
        for coming in ((0, 3, 1, 2), (0, 3, 2, 1), (3, 0, 1, 2), (3, 0, 2, 1)):
            self.assertIs(shows_slip(line, (coming, 2)), True)
            self.assertIs(shows_slip(line, (coming, 1)), False)
            self.assertIs(shows_slip(line, (coming, 3)), False)
            self.assertIs(shows_slip(line, (coming + (4,), 2)), False)
            self.assertIs(shows_slip(line, ((4,) + coming, 2)), False)

    def test_no_slip_where_they_need_more_paints(self):
        self.assertIs(shows_slip(ring_of(5), ((0, 2, 1, 4, 3), 2)), False)
        self.assertIs(shows_slip(LINE, ((0, 1, 2, 3), 1)), False)
        self.assertIs(shows_slip(LINE, ((0, 3, 1, 2), 0)), False)
        self.assertIs(shows_slip((7, FULL[1][1:]), ((2, 3, 4, 5), 3)), False)

    def test_slips_bent_at_one_place(self):
        for town in (LINE, ring_of(5), STAR):
            slips = {repr(one) for one in plain_pots.slips(town) or [None]}
            for value in bent(((0, 3, 1, 2), 2)):
                self.assertIs(shows_slip(town, value), repr(value) in slips, (town, value))

    def test_values_of_all_kinds(self):
        row = (0, 3, 1, 2)
        values = wrong.COMINGS + wrong.TREES + (
            (), row, (row,), (row, 2, 2), [row, 2], (list(row), 2), {row: 2}, (2, row), "03122", ("0312", 2),
            (row, "2"), (row, None), (row, True), (row, False), (row, (2,)), (row, [2]), (row, {}), (row, -1),
            (row, 10), (row, wrong.HUGE), (row, -wrong.HUGE), (None, 2), (True, 2), (0, 2), ((), 2),
            ((0, 3, 1, True), 2), ((False, 3, 1, 2), 2), ((0, 3, 1, 4), 2), ((0, 3, 1, 1), 2), ((0, 3, 1), 2),
            ((0, 3, 1, "2"), 2), ((0, 3, 1, None), 2), ((0, 3, 1, (2,)), 2), ((0, 3, 1, [2]), 2),
            ((0, 3, 1, wrong.HUGE), 2), (wrong.nested(3000), 2), (row, wrong.nested(3000)),
            ({0: 0, 3: 1, 1: 2, 2: 3}, 2))
        for at, value in enumerate(values):
            with self.subTest(at=at):
                self.assertIs(shows_slip(LINE, value), False)
                self.assertIs(shows_slip(RING, value), value is None)
        self.assertIs(shows_slip(LINE, (row, 2)), True)


CALLS = (
    lambda town: by_pots(town, (), 1), lambda town: by_pots(town, None, None), lambda town: sent_away(town, (), 1),
    lambda town: sent_away(town, (9,), 10), lambda town: fewest_away(town, (), 1),
    lambda town: fewest_away(town, [], -1), slip, lambda town: shows_slip(town, None))


class TestWrongArguments(PaintCase):
    def test_maps(self):
        self.fails_for_no_maps(CALLS)

    def test_comings(self):
        for function in (by_pots, sent_away):
            for pots in (0, 2, 9, 10, None, True, "2"):
                self.fails_for_each(BadComing, wrong.COMINGS, lambda coming: function(LINE, coming, pots))
            self.fails(BadComing, function, FULL, (0, 1, 2, 3, 4, 5, 6, 7), 3)
            self.fails(BadComing, function, ONE, (1,), 3)

    def test_lots(self):
        for pots in (0, 2, 9, 10, None, True, "2"):
            self.fails_for_each(BadLot, wrong.LOTS, lambda lot: fewest_away(LINE, lot, pots))
        self.fails(BadLot, fewest_away, LINE, (0, 3, 1, 2), 2)
        self.fails(BadLot, fewest_away, ONE, (1,), 3)

    def test_pots(self):
        for function in (by_pots, sent_away, fewest_away):
            for lot in ((), (0,), (0, 1, 2, 3)):
                self.fails_for_each(BadNumber, wrong.NUMBERS, lambda pots: function(LINE, lot, pots))
            function(LINE, (0, 1, 2, 3), 9)

    def test_arguments_are_not_changed(self):
        value = [[0, 3, 1, 2], 2]
        self.assertIs(shows_slip(LINE, value), False)
        self.fails(BadComing, by_pots, LINE, value[0], 2)
        self.assertEqual(value, [[0, 3, 1, 2], 2])


if __name__ == "__main__":
    unittest.main()
