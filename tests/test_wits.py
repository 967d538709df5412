import unittest
from itertools import combinations

from maskpaint.errors import BadComing, BadMap, BadWit
from maskpaint.wits import fool, follow, shows_fool, waste_of
from tests import plain, plain_wits, wrong
from tests.cases import PaintCase
from tests.drawn import MANY, bent, drawn_wit
from tests.towns import CROWN, DRAWN, EMPTY, FULL, LINE, MIXED_LINE, ONE, RING, SMALL, STAR, ring_of

START = (((),), ())
APART, NEAR = (((), ()), (1,)), (((), (0,)), (1,))
UNLIKE = ((APART, 2),)
# The last house of seven in a ring.
SEVEN = (((), (0,), (1,), (2,), (3,), (4,), (0, 5)), (1, 2, 1, 2, 1, 2))


class TestExamples(PaintCase):
    def test_line_of_four(self):
        line, unlike = (4, ((0, 1), (1, 2), (2, 3))), (((((), ()), (1,)), 2),)
        self.assertEqual(
            [follow(line, unlike, (0, 2, 1)), waste_of(line, unlike), len(fool(line, unlike)),
             len(fool(line, ())), shows_fool(line, (), (3, 0, 2, 1)), fool((3, ((0, 1), (1, 2))), ())],
            [(1, 2, 3), 1, 2, 4, True, None])

    def test_a_view_of_no_house(self):
        line = (4, ((0, 1), (1, 2), (2, 3)))
        self.assertEqual(self.fails(BadWit, fool, line, ((((()), ()), 1),)).index, 0)


class TestFollow(PaintCase):
    def test_told(self):
        self.same_kind(follow(LINE, (), ()), ())
        self.same_kind(follow(LINE, UNLIKE, ()), ())
        self.same_kind(follow(ONE, (), (0,)), (1,))
        self.same_kind(follow(ONE, ((START, 7),), (0,)), (7,))
        self.same_kind(follow(EMPTY, UNLIKE, (6, 0, 5)), (1, 2, 1))
        self.same_kind(follow(FULL, UNLIKE, (6, 0, 5)), (1, 2, 3))

    def test_the_view_has_the_paints_that_the_wit_gave(self):
        wit = ((START, 3), (APART, 2))
        self.same_kind(follow(EMPTY, wit, (0, 1)), (3, 1))
        self.same_kind(follow(EMPTY, ((START, 3), (APART, 2), ((((), ()), (3,)), 4)), (0, 1)), (3, 4))

    def test_the_view_has_all_links_ahead(self):
        # The third house stands alone in both comings, the first two are neighbors in one.
        wit = ((((), (), ()), (1, 2)), 5), ((((), (0,), ()), (1, 2)), 6)
        town = (3, ((0, 1),))
        self.same_kind(follow(town, wit, (0, 1, 2)), (1, 2, 6))
        self.same_kind(follow(town, (UNLIKE[0],) + wit, (0, 2, 1)), (1, 2, 2))
        self.same_kind(follow(EMPTY, (UNLIKE[0],) + wit, (0, 2, 1)), (1, 2, 5))

    def test_the_wit_does_not_see_which_houses_come(self):
        for coming in ((0, 2), (2, 0), (1, 3), (3, 0)):
            self.same_kind(follow(LINE, UNLIKE, coming), (1, 2))

    def test_a_view_of_seven_houses(self):
        wit = ((SEVEN, 7),)
        self.same_kind(follow(ring_of(7), wit, (0, 1, 2, 3, 4, 5, 6)), (1, 2, 1, 2, 1, 2, 7))
        self.same_kind(follow(ring_of(7), wit, (3, 2, 1, 0, 6, 5, 4)), (1, 2, 1, 2, 1, 2, 7))
        self.same_kind(follow(ring_of(7), wit, (0, 2, 1, 3, 4, 5, 6)), (1, 1, 2, 2, 1, 2, 3))
        self.same_kind(waste_of(ring_of(7), wit), 1)

    def test_each_coming_of_small_maps(self):
        for seed, town in enumerate(SMALL):
            for wit in (drawn_wit(seed, town), drawn_wit(seed, town, 3, 2)):
                for coming in plain.comings(town):
                    self.same_kind(follow(town, wit, coming), plain_wits.follow(town, wit, coming))

    def test_some_comings_of_larger_maps(self):
        for seed, town in enumerate(DRAWN):
            wit = drawn_wit(seed, town, 80)
            self.assertGreater(len(wit), 9)
            for coming in plain.comings(town)[seed::53]:
                self.same_kind(follow(town, wit, coming), plain_wits.follow(town, wit, coming))


class TestWaste(PaintCase):
    def test_told(self):
        told = ((ONE, (), 0), (LINE, (), 1), (RING, (), 0), (CROWN, (), 1), (EMPTY, (), 0), (FULL, (), 0),
                (LINE, UNLIKE, 1), (STAR, UNLIKE, 1), (FULL, UNLIKE, 0), (FULL, ((START, 7),), 0),
                (EMPTY, ((START, 7),), 1), (ONE, ((START, 7),), 0))
        for town, wit, waste in told:
            self.same_kind(waste_of(town, wit), waste)
            self.assertEqual(fool(town, wit) is None, waste == 0)

    def test_a_paint_more_for_each_house(self):
        wit = tuple(((((),) * (at + 1), tuple(range(1, at + 1))), at + 1) for at in range(7))
        self.same_kind(waste_of(EMPTY, wit), 6)
        self.assertEqual(len(fool(EMPTY, wit)), 2)
        self.same_kind(waste_of(FULL, wit), 0)

    def check_waste(self, town, wit):
        wasted = plain_wits.wastes(town, wit)
        self.same_kind(waste_of(town, wit), max(wasted.values()))
        fools, found = plain_wits.fools(wasted), fool(town, wit)
        self.assertTrue(found in fools if fools else found is None)
        return fools

    def test_all_comings_of_small_maps(self):
        for seed, town in enumerate(SMALL):
            for wit in ((), UNLIKE, drawn_wit(seed, town), drawn_wit(seed + 100, town, 2, 1)):
                self.check_waste(town, wit)

    def test_all_comings_of_some_larger_maps(self):
        for seed, town in enumerate(DRAWN[:20] + [ring_of(6), CROWN]):
            self.check_waste(town, drawn_wit(seed, town, 2 + seed % 7, 2))
        self.check_waste(MIXED_LINE, drawn_wit(5, MIXED_LINE, 50, 1))

    def test_a_wit_that_is_fooled_late(self):
        # Houses 2 and 3 alone are no neighbors: it wastes just where they come last.
        town, wit = (4, ((0, 1), (0, 2), (0, 3), (1, 2), (1, 3))), ((((), (0,), (0, 1), (0, 1)), (1, 2, 3)), 4)
        self.same_kind(waste_of(town, (wit,)), 1)
        self.assertIn(fool(town, (wit,)), ((0, 1, 2, 3), (0, 1, 3, 2), (1, 0, 2, 3), (1, 0, 3, 2)))
        self.assertIsNone(fool((4, tuple(combinations(range(4), 2))), (wit,)))


class TestShowsFool(PaintCase):
    def test_all_comings_of_small_maps(self):
        for seed, town in enumerate(SMALL):
            for wit in ((), drawn_wit(seed, town), drawn_wit(seed + 100, town, 2, 1)):
                fools = plain_wits.fools(plain_wits.wastes(town, wit))
                for coming in plain.comings(town):
                    self.assertIs(shows_fool(town, wit, coming), coming in fools)
                self.assertIs(shows_fool(town, wit, None), not fools)
                self.assertIs(shows_fool(town, wit, fool(town, wit)), True)

    def test_only_a_shortest(self):
        line = (5, ((0, 1), (1, 2), (2, 3)))
        for coming in ((0, 3, 1, 2), (0, 3, 2, 1), (3, 0, 1, 2), (0, 1, 3, 2)):
            self.assertIs(shows_fool(line, (), coming), True)
        for coming in ((4, 0, 3, 1, 2), (0, 3, 1, 2, 4), (0, 3, 1), (0, 1, 2, 3), ()):
            self.assertIs(shows_fool(line, (), coming), False)
        self.assertIs(shows_fool(LINE, UNLIKE, (0, 3)), True)
        self.assertIs(shows_fool(LINE, UNLIKE, (0, 3, 1, 2)), False)
        self.assertIs(shows_fool(LINE, UNLIKE, (0, 1)), False)

    def test_values_that_are_wrong(self):
        values = wrong.COMINGS + (
            [0, 3, 1, 2], (0, 3, 1, True), (False, 3, 1, 2), (0, 3, 1, "2"), "0312", (0, 3, 1, 4),
            (0, 3, 1, 1), {0: 0, 3: 1, 1: 2, 2: 3}, (0, 3, (1,), 2), (0, 3, [1], 2), ((0, 3, 1, 2),),
            wrong.nested(3000), (wrong.nested(3000),) * 4, (0, 3, 1, wrong.HUGE), (), 4)
        for at, value in enumerate(values):
            with self.subTest(at=at):
                self.assertIs(shows_fool(LINE, (), value), False)
                self.assertIs(shows_fool(LINE, UNLIKE, value), False)
                if value is not None:
                    self.assertIs(shows_fool(RING, (), value), False)
        self.assertIs(shows_fool(RING, (), None), True)


CALLS = (
    lambda town, wit: follow(town, wit, ()), waste_of, fool, lambda town, wit: shows_fool(town, wit, ()))


class TestWrongWits(PaintCase):
    def test_index(self):
        for at, (wit, index) in enumerate(wrong.WITS):
            for call in CALLS:
                with self.subTest(at=at):
                    self.same_kind(self.fails(BadWit, call, LINE, wit).index, index)

    def test_three_hundred_pairs_and_one_more(self):
        self.assertEqual(len(MANY), 301)
        for call in CALLS:
            call(LINE, MANY[:300])
            self.assertIsNone(self.fails(BadWit, call, LINE, MANY).index)
            self.assertEqual(self.fails(BadWit, call, LINE, MANY[:299] + ((START, 1),)).index, 299)
            self.assertEqual(self.fails(BadWit, call, LINE, MANY[:7] + MANY[8:300] + MANY[7:8]).index, 299)
            self.assertIsNone(self.fails(BadWit, call, LINE, (None,) + MANY[1:]).index)
        self.same_kind(follow(LINE, MANY[:300], (0, 1, 2)), plain_wits.follow(LINE, MANY[:300], (0, 1, 2)))

    def test_seven_houses_and_eight(self):
        self.assertEqual(follow(FULL, ((SEVEN, 3),), (0,)), (1,))
        for paint in (1, 2):
            self.assertEqual(self.fails(BadWit, waste_of, FULL, ((SEVEN, paint),)).index, 0)
        eight = (SEVEN[0] + ((),), SEVEN[1] + (3,))
        self.assertEqual(self.fails(BadWit, waste_of, FULL, ((SEVEN, 3), (eight, 3))).index, 1)

    def test_each_pair_about_three_houses_or_fewer(self):
        for telling in plain_wits.ALL_TELLINGS:
            self.assertIs(type(follow(ONE, (telling,), ())), tuple)

    def test_wits_bent_at_one_place(self):
        wit = (((((),), ()), 2), ((((), ()), (2,)), 1), ((((), (0,), ()), (1, 3)), 1),
               ((((), (0,), (0, 1)), (2, 7)), 3))
        for at, value in enumerate(bent(wit)):
            with self.subTest(at=at):
                index = plain_wits.first_wrong(value) if isinstance(value, tuple) else None
                if isinstance(value, tuple) and index is None:
                    self.assertIs(type(follow(LINE, value, (0, 1, 2))), tuple)
                else:
                    self.same_kind(self.fails(BadWit, follow, LINE, value, (0, 1, 2)).index, index)


class TestWrongArguments(PaintCase):
    def test_maps(self):
        self.fails_for_no_maps([lambda town, call=call: call(town, ()) for call in CALLS])

    def test_comings(self):
        for wit in ((), UNLIKE):
            self.fails_for_each(BadComing, wrong.COMINGS, lambda coming: follow(LINE, wit, coming))
        self.fails(BadComing, follow, ONE, (), (1,))
        self.fails(BadComing, follow, FULL, (), (0, 1, 2, 3, 4, 5, 6, 7))

    def test_leftmost_error_first(self):
        for call in CALLS:
            self.assertEqual(self.fails(BadMap, call, None, None).part, "map")
            self.assertEqual(self.fails(BadMap, call, (0, None), (None,)).part, "houses")
            self.assertEqual(self.fails(BadMap, call, (1, ((0, 1),)), MANY).part, "pairs")
        for wit, index in wrong.WITS[:20]:
            for coming in (None, (4,), (0, 0)):
                self.assertEqual(self.fails(BadWit, follow, LINE, wit, coming).index, index)
                self.assertEqual(self.fails(BadWit, shows_fool, LINE, wit, coming).index, index)
                self.assertEqual(self.fails(BadMap, follow, (8, ()), wit, coming).part, "houses")

    def test_arguments_are_not_changed(self):
        wit, coming = [[[[[]], []], 1]], [1, 0]
        self.fails(BadWit, follow, LINE, wit, coming)
        self.fails(BadWit, waste_of, LINE, tuple(wit))
        self.fails(BadComing, follow, LINE, (), coming)
        self.assertIs(shows_fool(LINE, (), coming), False)
        self.assertEqual((wit, coming), ([[[[[]], []], 1]], [1, 0]))


if __name__ == "__main__":
    unittest.main()
