"""Points 40 to 44 on a line of four, a star and a ring: known answers, and which error comes first."""

import unittest

from maskpaint.desks import Desk
from maskpaint.errors import (
    BadComing, BadFool, BadHouse, BadLine, BadLot, BadMap, BadNumber, BadStep, BadText, BadTree, BadWit, TooMany)
from maskpaint.maps import is_good
from maskpaint.pots import by_pots, fewest_away, sent_away, shows_slip, slip
from maskpaint.tales import tale
from maskpaint.texts import (
    coming_text, map_text, read_coming, read_map, read_tree, read_wit, tree_text, wit_text)
from maskpaint.trees import tree
from maskpaint.twins import may_come, shows_twin_row, twin_row, twins, with_house
from tests.cases import PaintCase
from tests.towns import LINE, RING, STAR

EVERYONE = (0, 1, 2, 3)
# The second house, if it is no neighbor of the first one, gets a paint of its own.
UNLIKE = (((((), ()), (1,)), 2),)
NO_MAP, NO_HOUSES, NO_PAIRS = [4, ()], (8, ((1, 0),)), (4, ((1, 0),))


class TestTexts(PaintCase):
    def test_maps(self):
        for town, text in (
                (LINE, "houses 4\n0 - 1\n1 - 2\n2 - 3\n"), (STAR, "houses 4\n0 - 1\n0 - 2\n0 - 3\n"),
                (RING, "houses 4\n0 - 1\n0 - 3\n1 - 2\n2 - 3\n")):
            self.same_kind(map_text(town), text)
            self.same_kind(read_map(text), town)

    def test_trees(self):
        self.assertIsNone(tree(LINE))
        for town, text in ((STAR, "all(0,side(1,2,3))"), (RING, "all(side(0,2),side(1,3))")):
            self.same_kind(tree_text(tree(town)), text)
            self.same_kind(read_tree(text), tree(town))

    def test_wits_and_comings(self):
        self.same_kind(wit_text(UNLIKE), "- - | 1 | 2\n")
        self.same_kind(read_wit("- - | 1 | 2\n"), UNLIKE)
        for town in (LINE, STAR, RING):
            self.same_kind(coming_text(town, (3, 0, 2)), "3 0 2")
            self.same_kind(read_coming(town, "3 0 2"), (3, 0, 2))
            self.fails(BadComing, read_coming, town, "3 0 4")
            self.fails(BadComing, coming_text, town, (3, 0, 3))

    def test_first_wrong_line_and_sign(self):
        self.assertEqual(self.fails(BadLine, read_map, "houses 4\n0 - 1\n2 - 3\n1 - 2\n0 - 4\n").line, 3)
        self.assertEqual(self.fails(BadLine, read_map, "houses 8\n0 - 1\n2 - 3\n1 - 2").line, 3)
        self.assertEqual(self.fails(BadLine, read_wit, "- - | 1 | 2\n- 0 | 1 | 1\n- | | 1\n").line, 1)
        self.assertEqual(self.fails(BadText, read_tree, "all(0,side(1;2;3))").place, 12)
        self.fails(BadTree, read_tree, "all(0,side(1,2,4))")

    def test_first_errors(self):
        self.assertEqual(self.fails(BadMap, coming_text, NO_MAP, None).part, "map")
        self.assertEqual(self.fails(BadMap, read_coming, NO_HOUSES, None).part, "houses")
        self.assertEqual(self.fails(BadMap, map_text, NO_PAIRS).part, "pairs")


class TestTales(PaintCase):
    def test_line(self):
        self.same_kind(
            tale(LINE, (), (3, 0, 2, 1)),
            "house 3 beside nobody: 1, least\nhouse 0 beside nobody: 1, least\nhouse 2 beside 3: 2, least\n"
            "house 1 beside 0 2: 3, least\npaints 3, needed 2\n")

    def test_the_same_tale_on_each_map(self):
        text = "house {} beside nobody: 1, least\nhouse {} beside nobody: 2, told\npaints 2, needed 1\n"
        for town, coming in ((LINE, (1, 3)), (STAR, (1, 3)), (STAR, (2, 1)), (RING, (1, 3)), (RING, (2, 0))):
            self.same_kind(tale(town, UNLIKE, coming), text.format(*coming))
            self.fails(BadFool, tale, town, UNLIKE, coming[:1])
            self.fails(BadFool, tale, town, UNLIKE, coming + (coming[0],))
        self.fails(BadFool, tale, LINE, UNLIKE, (1, 3, 0))
        self.fails(BadFool, tale, RING, UNLIKE, (1, 2))

    def test_nobody_is_fooled(self):
        for town in (STAR, RING):
            for value in (None, (), (0, 3, 1, 2), EVERYONE):
                self.fails(BadFool, tale, town, (), value)

    def test_first_errors(self):
        self.assertEqual(self.fails(BadMap, tale, NO_MAP, None, None).part, "map")
        self.assertEqual(self.fails(BadMap, tale, NO_HOUSES, None, None).part, "houses")
        self.assertEqual(self.fails(BadMap, tale, NO_PAIRS, (None,), (0, 3, 1, 2)).part, "pairs")
        self.assertIsNone(self.fails(BadWit, tale, LINE, [], None).index)
        self.assertEqual(self.fails(BadWit, tale, LINE, UNLIKE * 2, (0, 0)).index, 1)
        self.fails(BadFool, tale, LINE, UNLIKE, (0, 0))


class TestTwins(PaintCase):
    def test_twins(self):
        self.same_kind(twins(LINE), ())
        self.same_kind(twins(STAR), ((1, 2, "apart"), (1, 3, "apart"), (2, 3, "apart")))
        self.same_kind(twins(RING), ((0, 2, "apart"), (1, 3, "apart")))

    def test_rows(self):
        self.assertIsNone(twin_row(LINE))
        self.assertIs(shows_twin_row(LINE, None), True)
        for town, right, wrong in (
                (LINE, (), (EVERYONE, (1, 0, 2, 3), (3, 2))),
                (STAR, (EVERYONE, (2, 0, 3, 1)), ((1, 2, 0, 3), (3, 2, 1, 0), (0, 1), (0, 1, 1, 2), None)),
                (RING, (EVERYONE, (3, 0, 2, 1)), ((0, 2, 1, 3), (3, 1, 0, 2), (0, 1), (0, 1, 1, 2), None))):
            self.assertIs(shows_twin_row(town, twin_row(town)), True)
            self.assertEqual([shows_twin_row(town, row) for row in right], [True] * len(right))
            self.assertEqual([shows_twin_row(town, row) for row in wrong], [False] * len(wrong))

    def test_maps_that_grow(self):
        self.same_kind(with_house(LINE, (0, 3)), (5, ((0, 1), (0, 4), (1, 2), (2, 3), (3, 4))))
        self.same_kind(with_house(STAR, (0,)), (5, ((0, 1), (0, 2), (0, 3), (0, 4))))
        self.same_kind(with_house(RING, ()), (5, RING[1]))
        self.same_kind(may_come(LINE), ())
        self.same_kind(may_come(STAR), (
            (), (0,), (0, 1), (0, 1, 2), (0, 1, 2, 3), (0, 1, 3), (0, 2), (0, 2, 3), (0, 3), (1, 2, 3)))
        self.same_kind(may_come(RING), (
            (), (0, 1, 2), (0, 1, 2, 3), (0, 1, 3), (0, 2), (0, 2, 3), (1, 2, 3), (1, 3)))
        for town in (STAR, RING):
            self.assertTrue(all(is_good(with_house(town, lot)) for lot in may_come(town)))

    def test_first_errors(self):
        seven = (7, LINE[1])
        self.assertEqual(self.fails(BadMap, with_house, NO_MAP, None).part, "map")
        self.assertEqual(self.fails(BadMap, with_house, (7, ((0, 7),)), (0, 0)).part, "pairs")
        self.fails(BadLot, with_house, seven, (1, 0))
        self.fails(BadLot, with_house, LINE, (0, 4))
        self.assertEqual(self.fails(TooMany, with_house, seven, (0, 1)).most, 7)
        self.assertEqual(self.fails(TooMany, may_come, seven).most, 7)
        self.assertEqual(self.fails(BadMap, may_come, NO_HOUSES).part, "houses")


class TestPots(PaintCase):
    def test_line(self):
        self.assertEqual(
            [by_pots(LINE, (0, 3, 1, 2), pots) for pots in (0, 1, 2, 3)],
            [(None,) * 4, (1, 1, None, None), (1, 1, 2, None), (1, 1, 2, 3)])
        self.assertEqual(
            [sent_away(LINE, (0, 3, 1, 2), pots) for pots in (0, 1, 2, 9)], [(0, 3, 1, 2), (1, 2), (2,), ()])
        self.assertEqual([fewest_away(LINE, EVERYONE, pots) for pots in (0, 1, 2, 9)], [4, 2, 0, 0])
        for coming in ((0, 3, 1, 2), (0, 3, 2, 1), (3, 0, 1, 2), (3, 0, 2, 1)):
            self.assertIs(shows_slip(LINE, (coming, 2)), True)
            self.assertIs(shows_slip(LINE, (coming, 3)), False)
        self.assertIs(shows_slip(LINE, slip(LINE)), True)
        self.assertIs(shows_slip(LINE, None), False)

    def test_star_and_ring(self):
        self.same_kind(by_pots(STAR, (0, 3, 1, 2), 1), (1, None, None, None))
        self.same_kind(by_pots(STAR, (3, 0, 1, 2), 1), (1, None, 1, 1))
        self.same_kind(by_pots(RING, (0, 1, 2, 3), 1), (1, None, 1, None))
        self.same_kind(by_pots(RING, (0, 1, 3, 2), 1), (1, None, None, 1))
        self.same_kind(sent_away(STAR, (0, 3, 1, 2), 1), (3, 1, 2))
        self.same_kind(sent_away(RING, (3, 2, 1), 1), (2,))
        self.assertEqual([fewest_away(STAR, EVERYONE, pots) for pots in (0, 1, 2)], [4, 1, 0])
        self.assertEqual([fewest_away(RING, EVERYONE, pots) for pots in (0, 1, 2)], [4, 2, 0])
        for town in (STAR, RING):
            self.assertIsNone(slip(town))
            self.assertIs(shows_slip(town, None), True)
            self.assertIs(shows_slip(town, ((0, 3, 1, 2), 2)), False)

    def test_first_errors(self):
        for function in (by_pots, sent_away, fewest_away):
            self.assertEqual(self.fails(BadMap, function, NO_MAP, (4,), 10).part, "map")
            self.assertEqual(self.fails(BadMap, function, NO_HOUSES, (0, 0), None).part, "houses")
            self.fails(BadNumber, function, LINE, (), 10)
        self.fails(BadComing, by_pots, LINE, (0, 0), 10)
        self.fails(BadComing, sent_away, LINE, (4,), True)
        self.fails(BadLot, fewest_away, LINE, (1, 0), -1)


class TestDesks(PaintCase):
    def check_desk(self, town, rows):
        desk = Desk(town)
        for line, answer in rows:
            self.same_kind(desk.do(line), answer)

    def test_line(self):
        self.check_desk(LINE, (
            ("come 1", "1"), ("come 2", "2"), ("come 3", "1"), ("paint 0 3", "done"), ("coming", "1 2 3 0"),
            ("paints", "1 2 1 3"), ("rule", "1 2 1 2"), ("waste", "1"), ("back", "done"), ("come 0", "2"),
            ("waste", "0")))

    def test_star_and_ring(self):
        self.check_desk(STAR, (
            ("come 1", "1"), ("paint 2 2", "done"), ("waste", "1"), ("come 0", "3"), ("come 3", "1"),
            ("rule", "1 1 2 1")))
        self.check_desk(RING, (
            ("come 0", "1"), ("paint 2 2", "done"), ("come 1", "3"), ("come 3", "3"), ("waste", "1"),
            ("paints", "1 2 3 3")))

    def test_first_errors(self):
        self.assertEqual(self.fails(BadMap, Desk, NO_MAP).part, "map")
        self.assertEqual(self.fails(BadMap, Desk, NO_HOUSES).part, "houses")
        for town in (LINE, STAR, RING):
            desk = Desk(town)
            desk.do("come 0")
            self.assertEqual(self.fails(BadLine, desk.do, "come  4").line, 0)
            self.fails(BadHouse, desk.do, "paint 4 0")
            self.fails(BadNumber, desk.do, "paint 0 0")
            self.fails(BadStep, desk.do, "paint 0 1")
            self.fails(BadStep, desk.do, "paint 1 1")
            self.same_kind(desk.do("coming"), "0")


if __name__ == "__main__":
    unittest.main()
