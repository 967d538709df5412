import unittest

from maskpaint.errors import BadMap, BadNumber, BadTree
from maskpaint.maps import bare_rows, count_paintings, most_mutual, need
from maskpaint.trees import map_of, shows_tree, tree, tree_need, tree_paintings
from tests import plain, wrong
from tests.cases import PaintCase
from tests.towns import DRAWN_TREES, EMPTY, FULL, LARGER, LINE, ONE, RING, SMALL, STAR, ring_of

FAN = ("all", (0, ("side", (1, 2, 3))))


def is_tidy(part):
    """Whether no part has its pair's word, and parts ascend by their least houses."""
    if isinstance(part, int):
        return True
    firsts = [min(plain.houses_in(inner)) for inner in part[1]]
    unlike = all(isinstance(inner, int) or inner[0] != part[0] for inner in part[1])
    return unlike and firsts == sorted(firsts) and all(is_tidy(inner) for inner in part[1])


class TestExamples(PaintCase):
    def test_ring_of_four(self):
        ring = (4, ((0, 1), (0, 3), (1, 2), (2, 3)))
        self.assertEqual(
            [tree(ring), tree_need(tree(ring)), tree_paintings(tree(ring), 3),
             shows_tree(ring, ("all", (("side", (3, 1)), ("side", (0, 2))))),
             tree((4, ((0, 1), (1, 2), (2, 3)))), map_of(("all", (1, ("side", (0, 2)))))],
            [("all", (("side", (0, 2)), ("side", (1, 3)))), 2, 18, True, None, (3, ((0, 1), (1, 2)))])

    def test_houses_left_out(self):
        self.fails(BadTree, map_of, ("all", (0, 2)))


class TestMapOf(PaintCase):
    def test_told(self):
        self.same_kind(map_of(0), (1, ()))
        self.same_kind(map_of(("side", (1, 0))), (2, ()))
        self.same_kind(map_of(("all", (1, 0))), (2, ((0, 1),)))
        self.same_kind(map_of(FAN), STAR)
        self.same_kind(map_of(("all", (6, 5, 4, 3, 2, 1, 0))), FULL)
        self.same_kind(map_of(("side", (0, 2, 4, 6, 1, 3, 5))), EMPTY)

    def test_a_part_may_have_its_pairs_word(self):
        self.same_kind(map_of(("all", (("all", (2, 0)), 1))), (3, ((0, 1), (0, 2), (1, 2))))

    def test_each_tree_of_up_to_four_houses(self):
        for houses in range(1, 5):
            for value in plain.every_tree(houses):
                self.same_kind(map_of(value), plain.map_of(value))

    def test_drawn_trees(self):
        for value in DRAWN_TREES:
            self.same_kind(map_of(value), plain.map_of(value))


class TestTree(PaintCase):
    def test_told(self):
        self.same_kind(tree(ONE), 0)
        self.same_kind(tree((2, ())), ("side", (0, 1)))
        self.same_kind(tree((2, ((0, 1),))), ("all", (0, 1)))
        self.same_kind(tree(EMPTY), ("side", (0, 1, 2, 3, 4, 5, 6)))
        self.same_kind(tree(FULL), ("all", (0, 1, 2, 3, 4, 5, 6)))
        self.same_kind(tree((4, ((0, 3), (1, 3), (2, 3)))), ("all", (("side", (0, 1, 2)), 3)))
        self.same_kind(tree((3, ((0, 2),))), ("side", (("all", (0, 2)), 1)))

    def test_none_for_a_bare_row_in_a_part(self):
        self.assertIsNone(tree((5, LINE[1])))
        self.assertIsNone(tree((5, ((0, 1), (0, 4), (1, 2), (1, 4), (2, 3), (2, 4), (3, 4)))))
        self.assertIsNone(tree(ring_of(5)))

    def test_none_just_for_maps_with_a_bare_row(self):
        for town in SMALL + LARGER + [map_of(value) for value in DRAWN_TREES]:
            self.assertEqual(tree(town) is None, plain.bare_rows(town) != ())

    def test_it_tells_the_map_and_is_tidy(self):
        for town in SMALL + LARGER + [map_of(value) for value in DRAWN_TREES]:
            found = tree(town)
            if found is not None:
                self.assertEqual(plain.map_of(found), town)
                self.assertTrue(is_tidy(found))

    def test_each_map_of_up_to_four_houses(self):
        for houses in range(1, 5):
            tidy = {plain.map_of(value): value for value in plain.every_tree(houses) if is_tidy(value)}
            for town in SMALL:
                if town[0] == houses:
                    self.assertEqual(tree(town), tidy.get(town))


class TestShowsTree(PaintCase):
    def test_each_tree_of_up_to_four_houses(self):
        for houses in range(1, 5):
            for value in plain.every_tree(houses)[::3]:
                told = plain.map_of(value)
                for town in SMALL:
                    self.assertIs(shows_tree(town, value), town == told)

    def test_drawn_trees(self):
        towns = [plain.map_of(value) for value in DRAWN_TREES]
        for value, told in zip(DRAWN_TREES, towns):
            for town in towns + LARGER:
                self.assertIs(shows_tree(town, value), town == told)

    def test_what_is_no_tree(self):
        for town in (ONE, (2, ()), (2, ((0, 1),)), RING, LINE, EMPTY, FULL):
            for at, value in enumerate(wrong.TREES):
                with self.subTest(at=at):
                    self.assertIs(shows_tree(town, value), False)

    def test_wrong_map_with_any_value(self):
        for value in (None, 0, FAN, wrong.nested(3000)):
            self.assertEqual(self.fails(BadMap, shows_tree, (4, [(0, 1)]), value).part, "pairs")


class TestNeedAndPaintings(PaintCase):
    def test_told(self):
        self.same_kind(tree_need(0), 1)
        self.same_kind(tree_need(FAN), 2)
        self.same_kind(tree_need(("all", (0, 1, 2, 3, 4, 5, 6))), 7)
        self.same_kind(tree_need(("side", (0, 1, 2, 3, 4, 5, 6))), 1)
        self.same_kind(tree_paintings(0, 0), 0)
        self.same_kind(tree_paintings(0, 9), 9)
        self.same_kind(tree_paintings(FAN, 2), 2)
        self.same_kind(tree_paintings(FAN, 3), 24)

    def check_need(self, value):
        town = plain.map_of(value)
        self.same_kind(tree_need(value), len(plain.most_mutual(town)[0]))
        self.same_kind(tree_need(value), len(most_mutual(town)[0]))
        self.same_kind(tree_need(value), need(town, tuple(range(town[0]))))
        self.assertFalse(plain.count_paintings(*town, tree_need(value) - 1))
        self.assertTrue(plain.count_paintings(*town, tree_need(value)))

    def test_need_is_the_size_of_the_greatest_lots_of_neighbors(self):
        good = [town for town in SMALL + LARGER if bare_rows(town) == ()]
        for value in [tree(town) for town in good] + list(DRAWN_TREES):
            self.check_need(value)

    def test_paintings_are_those_of_the_map(self):
        for value in [tree(town) for town in SMALL if tree(town) is not None] + list(DRAWN_TREES):
            town = plain.map_of(value)
            for paints in (0, 1, 2, 4, 9):
                self.same_kind(tree_paintings(value, paints), plain.count_paintings(*town, paints))
                self.same_kind(tree_paintings(value, paints), count_paintings(town, paints))


class TestWrongArguments(PaintCase):
    def test_maps(self):
        self.fails_for_no_maps((tree, lambda town: shows_tree(town, 0)))

    def test_trees(self):
        for call in (map_of, tree_need, lambda value: tree_paintings(value, 3)):
            self.fails_for_each(BadTree, wrong.TREES, call)

    def test_numbers(self):
        self.fails_for_each(BadNumber, wrong.NUMBERS, lambda paints: tree_paintings(FAN, paints))

    def test_leftmost_error_first(self):
        self.fails(BadTree, tree_paintings, ("all", (0,)), 10)
        self.fails(BadTree, tree_paintings, None, None)

    def test_arguments_are_not_changed(self):
        value = ["all", [1, 0]]
        self.fails(BadTree, map_of, value)
        self.fails(BadTree, map_of, ("all", value))
        self.assertIs(shows_tree((2, ()), value), False)
        self.assertEqual(value, ["all", [1, 0]])


if __name__ == "__main__":
    unittest.main()
