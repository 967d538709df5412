"""What the document promises over the whole program: which error comes first, and that nothing is changed."""

import copy
import unittest
from itertools import product

from maskpaint import comings, goods, maps, pots, tales, texts, trees, twins, wits
from maskpaint.benches import Bench
from maskpaint.desks import Desk
from maskpaint.errors import (
    BadComing, BadFool, BadHouse, BadLine, BadLot, BadMap, BadNumber, BadText, BadTree, BadWit, TooMany)
from tests import wrong
from tests.cases import PaintCase
from tests.towns import FULL, LINE

MAP, HOUSE, LOT, COMING, NUMBER = "map", "house", "lot", "coming", "number"
TREE, WIT, TEXT, TREE_TEXT, COMING_TEXT, FOOL, ANY = "tree", "wit", "text", "tree text", "coming text", "fool", "any"
# For each kind of argument the error for what is not allowed.
ERRORS = {
    MAP: BadMap, HOUSE: BadHouse, LOT: BadLot, COMING: BadComing, NUMBER: BadNumber, TREE: BadTree, WIT: BadWit,
    TEXT: BadLine, TREE_TEXT: BadText, COMING_TEXT: BadComing, FOOL: BadFool}
# A value that is allowed, on a line of four.
RIGHT = {
    MAP: LINE, HOUSE: 0, LOT: (0, 3), COMING: (0, 3, 1), NUMBER: 2, TREE: ("all", (0, 1)), WIT: (), TEXT: "houses 1\n",
    TREE_TEXT: "side(0,1)", COMING_TEXT: "0 3", FOOL: (0, 3, 1, 2), ANY: None}
# Values of all kinds that none of the arguments allows, one of a wit's or a map's text among them.
NEVER = (True, False, -1, 10, wrong.HUGE, "x", "houses 1\n\n", ("x",), (0, 0), (None,), [], [0], ["0"], {}, {0: 1},
         ((0, 1), (0, 1)), wrong.nested(3000))
ALSO = {MAP: (None, 0, (), LINE[1]), HOUSE: (None, 4, ()), LOT: (None, 0, (3, 0)), COMING: (None, 0, (0, 4)),
        NUMBER: (None, (), "2"), TREE: (None, 6, ()), WIT: (None, 0, "", LINE), TEXT: (None, 0, ()),
        TREE_TEXT: (None, 0, ("side", (0, 1)), ""), COMING_TEXT: (None, 0, (), "0 4"),
        FOOL: (None, 0, (), (0, 1, 2, 3))}
FUNCTIONS = (
    (maps.near, MAP, HOUSE), (maps.need, MAP, LOT), (maps.count_paintings, MAP, NUMBER), (maps.most_mutual, MAP),
    (maps.bare_rows, MAP), (maps.is_good, MAP), (maps.left_out, MAP), (trees.tree, MAP), (trees.map_of, TREE),
    (trees.shows_tree, MAP, ANY), (trees.tree_need, TREE), (trees.tree_paintings, TREE, NUMBER),
    (comings.paints, MAP, COMING), (comings.wasted, MAP, COMING), (comings.worst, MAP), (comings.worst_coming, MAP),
    (comings.most_wasted, MAP), (comings.worst_lots, MAP), (comings.shows_worst_lots, MAP, ANY),
    (wits.follow, MAP, WIT, COMING), (wits.waste_of, MAP, WIT), (wits.fool, MAP, WIT), (wits.shows_fool, MAP, WIT, ANY),
    (goods.count_good, NUMBER), (goods.mends, MAP), (goods.other_side, MAP), (texts.map_text, MAP),
    (texts.tree_text, TREE), (texts.coming_text, MAP, COMING), (texts.wit_text, WIT), (texts.read_map, TEXT),
    (texts.read_tree, TREE_TEXT), (texts.read_coming, MAP, COMING_TEXT), (texts.read_wit, TEXT),
    (tales.tale, MAP, WIT, FOOL), (twins.twins, MAP), (twins.twin_row, MAP), (twins.shows_twin_row, MAP, ANY),
    (twins.with_house, MAP, LOT), (twins.may_come, MAP), (pots.by_pots, MAP, COMING, NUMBER),
    (pots.sent_away, MAP, COMING, NUMBER), (pots.fewest_away, MAP, LOT, NUMBER), (pots.slip, MAP),
    (pots.shows_slip, MAP, ANY), (Bench, MAP), (Desk, MAP))
SHOWS = (trees.shows_tree, comings.shows_worst_lots, wits.shows_fool, twins.shows_twin_row, pots.shows_slip)


def right_for(function, kinds):
    """Arguments that a function allows."""
    return ["- | | 1\n" if function is texts.read_wit else RIGHT[kind] for kind in kinds]


def not_allowed(kind):
    return NEVER + ALSO[kind] if kind != ANY else ()


class TestErrors(PaintCase):
    def test_right_arguments(self):
        for function, *kinds in FUNCTIONS:
            function(*right_for(function, kinds))

    def test_each_argument_alone(self):
        for function, *kinds in FUNCTIONS:
            for at, kind in enumerate(kinds):
                right = right_for(function, kinds)
                for value in not_allowed(kind):
                    with self.subTest(function=function.__name__, at=at):
                        self.fails(ERRORS[kind], function, *right[:at], value, *right[at + 1:])

    def test_the_leftmost_of_several(self):
        for function, *kinds in FUNCTIONS:
            wrong_ones = [not_allowed(kind)[1::4] for kind in kinds]
            for at in range(len(kinds) - 1):
                right = right_for(function, kinds)
                behind = [values or NEVER for values in wrong_ones[at + 1:]]
                for values in product(wrong_ones[at], *behind):
                    with self.subTest(function=function.__name__, at=at):
                        self.fails(ERRORS[kinds[at]], function, *right[:at], *values)

    def test_too_many_behind_all_others(self):
        for value in NEVER + ALSO[LOT]:
            self.fails(BadLot, twins.with_house, FULL, value)
        self.fails(TooMany, twins.with_house, FULL, (0, 3))
        self.fails(TooMany, twins.may_come, FULL)


class TestAnswers(PaintCase):
    def test_shows_returns_true_or_false_for_any_value(self):
        for function in SHOWS:
            wit = ((),) if function is wits.shows_fool else ()
            for values in (NEVER, *ALSO.values(), RIGHT.values(), wrong.COMINGS, wrong.TREES, wrong.LOTS):
                for value in values:
                    self.assertIn(function(LINE, *wit, value), (True, False))
                    self.assertIs(type(function(LINE, *wit, value)), bool)

    def test_shows_what_the_program_returns(self):
        for function, other in (
                (trees.shows_tree, trees.tree), (comings.shows_worst_lots, comings.worst_lots),
                (twins.shows_twin_row, twins.twin_row), (pots.shows_slip, pots.slip)):
            for town in (FULL, (4, ((0, 1),)), (1, ())):
                self.assertIs(function(town, other(town)), True)

    def test_equal_arguments_have_equal_answers(self):
        for function, *kinds in FUNCTIONS:
            if function not in (Bench, Desk):
                right = right_for(function, kinds)
                self.same_kind(function(*right), function(*copy.deepcopy(right)))

    def test_arguments_are_not_changed(self):
        for function, *kinds in FUNCTIONS:
            for at, kind in enumerate(kinds):
                for value in ([0, 3], [[0, 3]], {0: [3]}, ([0, 3],), (4, [(0, 1)])):
                    arguments = right_for(function, kinds)
                    arguments[at] = value
                    before = copy.deepcopy(arguments)
                    if kind == ANY:
                        self.assertIs(function(*arguments), False)
                    else:
                        self.fails(ERRORS[kind], function, *arguments)
                    self.assertEqual(arguments, before)


if __name__ == "__main__":
    unittest.main()
