import re
import unittest

from maskpaint.errors import BadFool, BadWit
from maskpaint.tales import tale
from maskpaint.wits import fool
from tests import plain, plain_twins, plain_wits, wrong
from tests.cases import PaintCase
from tests.drawn import MANY, bent, drawn_wit, every_small_wit
from tests.towns import DRAWN, EMPTY, FULL, LINE, ONE, RING, SMALL, STAR, line_of, ring_of

START, APART, NEAR = (((),), ()), (((), ()), (1,)), (((), (0,)), (1,))
UNLIKE = ((APART, 2),)
HOUSE_LINE = re.compile(r"house [0-6] beside (nobody|[0-6]( [0-6])*): [1-7], (told|least)\n")
LAST_LINE = re.compile(r"paints [1-7], needed [1-7]\n")


class TestExamples(PaintCase):
    def test_line_and_star(self):
        line, star = (4, ((0, 1), (1, 2), (2, 3))), (4, ((0, 1), (0, 2), (0, 3)))
        self.assertEqual(
            tale(line, (), (0, 3, 1, 2)),
            "house 0 beside nobody: 1, least\nhouse 3 beside nobody: 1, least\nhouse 1 beside 0: 2, least\n"
            "house 2 beside 1 3: 3, least\npaints 3, needed 2\n")
        self.fails(BadFool, tale, star, (), None)


class TestTale(PaintCase):
    def test_told_for_a_view_of_the_wit(self):
        self.same_kind(
            tale(LINE, UNLIKE, (3, 0)),
            "house 3 beside nobody: 1, least\nhouse 0 beside nobody: 2, told\npaints 2, needed 1\n")
        wit = ((START, 7), ((((), ()), (7,)), 2))
        self.same_kind(
            tale(EMPTY, wit, (6, 4)),
            "house 6 beside nobody: 7, told\nhouse 4 beside nobody: 2, told\npaints 2, needed 1\n")
        self.same_kind(
            tale(RING, ((START, 7),), (2, 0)),
            "house 2 beside nobody: 7, told\nhouse 0 beside nobody: 1, least\npaints 2, needed 1\n")

    def test_told_also_where_the_least_rule_tells_the_same(self):
        wit = ((START, 1), (APART, 1), ((((), (), (1,)), (1, 1)), 2))
        self.same_kind(
            tale(LINE, wit, (3, 0, 1, 2)),
            "house 3 beside nobody: 1, told\nhouse 0 beside nobody: 1, told\nhouse 1 beside 0: 2, told\n"
            "house 2 beside 1 3: 3, least\npaints 3, needed 2\n")
        self.same_kind(
            tale(LINE, wit, (3, 0, 2, 1)),
            "house 3 beside nobody: 1, told\nhouse 0 beside nobody: 1, told\nhouse 2 beside 3: 2, least\n"
            "house 1 beside 0 2: 3, least\npaints 3, needed 2\n")

    def test_neighbors_ahead_are_ascending_and_only_those_ahead(self):
        star = (5, ((0, 4), (1, 4), (2, 4), (3, 4)))
        wit = ((((), (), (), (0, 1, 2)), (1, 1, 1)), 3), ((((), (), (), (0, 1, 2), (3,)), (1, 1, 1, 3)), 2)
        self.same_kind(
            tale(star, wit, (3, 0, 2, 4, 1)),
            "house 3 beside nobody: 1, least\nhouse 0 beside nobody: 1, least\nhouse 2 beside nobody: 1, least\n"
            "house 4 beside 0 2 3: 3, told\nhouse 1 beside 4: 2, told\npaints 3, needed 2\n")

    def test_needed_by_those_who_have_come(self):
        # All five houses of the ring need three paints, but the four that come need two.
        self.same_kind(
            tale(ring_of(5), (), (0, 3, 1, 2)),
            "house 0 beside nobody: 1, least\nhouse 3 beside nobody: 1, least\nhouse 1 beside 0: 2, least\n"
            "house 2 beside 1 3: 3, least\npaints 3, needed 2\n")

    def test_one_house_wastes_nothing(self):
        for wit in ((), ((START, 7),)):
            for value in (None, (), (0,)):
                self.fails(BadFool, tale, ONE, wit, value)

    def check_tale(self, town, wit, coming):
        text = tale(town, wit, coming)
        self.same_kind(text, plain_twins.tale(town, wit, coming))
        lines = text.splitlines(keepends=True)
        self.assertEqual(len(lines), len(coming) + 1)
        self.assertTrue(all(HOUSE_LINE.fullmatch(line) for line in lines[:-1]))
        self.assertRegex(lines[-1], LAST_LINE)
        return text

    def check_each_coming(self, town, wit):
        """Check the tales of all comings that fool a wit, and that there are none of others; return them."""
        fools = plain_wits.fools(plain_wits.wastes(town, wit))
        for coming in plain.comings(town):
            if coming not in fools:
                self.fails(BadFool, tale, town, wit, coming)
        self.fails(BadFool, tale, town, wit, None)
        return "".join(self.check_tale(town, wit, coming) for coming in fools)

    def test_each_coming_of_small_maps(self):
        texts = ""
        for seed, town in enumerate(SMALL):
            for wit in ((), UNLIKE, drawn_wit(seed, town), drawn_wit(seed + 100, town, 3, 2)):
                texts += self.check_each_coming(town, wit)
        # Houses beside nobody, one and several, both told and by the least rule, have come up.
        for part in ("nobody: 1, least", "nobody: 2, told", " 1: 2, least", " 1: 3, told", " 0 3: 3, least",
                     " 0 3: 6, told", "paints 2, needed 1", "paints 4, needed 3"):
            self.assertTrue(part in texts, part)

    def test_each_small_wit(self):
        for wit in every_small_wit():
            for town in (LINE, STAR, RING, (3, ((0, 2),))):
                self.check_each_coming(town, wit)

    def test_larger_maps(self):
        for seed, town in enumerate(DRAWN + [line_of(7), ring_of(7), EMPTY]):
            for wit in ((), drawn_wit(seed, town, 60, 2), drawn_wit(seed, town, 3, 1)):
                coming = fool(town, wit)
                if coming is None:
                    self.fails(BadFool, tale, town, wit, coming)
                else:
                    self.check_tale(town, wit, coming)

    def test_seven_houses(self):
        # Only houses 5 and 6 are no neighbors: the wit wastes just where they come last.
        town = (7, FULL[1][:-1])
        links = ((), (0,), (0, 1), (0, 1, 2), (0, 1, 2, 3), (0, 1, 2, 3, 4), (0, 1, 2, 3, 4))
        wit = (((links, (1, 2, 3, 4, 5, 6)), 7),)
        text = self.check_tale(town, wit, (4, 0, 3, 1, 2, 6, 5))
        self.assertTrue(text.endswith(
            "house 6 beside 0 1 2 3 4: 6, least\nhouse 5 beside 0 1 2 3 4: 7, told\npaints 7, needed 6\n"))


class TestWrongArguments(PaintCase):
    def test_values_that_are_no_fools(self):
        values = wrong.COMINGS + (
            [0, 3, 1, 2], (0, 3, 1, True), (False, 3, 1, 2), (0, 3, 1, "2"), "0312", "0 3 1 2", (0, 3, 1, 4),
            (0, 3, 1, 1), {0: 0, 3: 1, 1: 2, 2: 3}, (0, 3, (1,), 2), (0, 3, [1], 2), ((0, 3, 1, 2),),
            (0, 1, 2, 3), (0, 3, 1), (), wrong.nested(3000), (wrong.nested(3000),) * 4, (0, 3, 1, wrong.HUGE))
        for wit in ((), UNLIKE, ((NEAR, 3),)):
            self.fails_for_each(BadFool, values, lambda value: tale(LINE, wit, value))
        self.fails_for_each(BadFool, values, lambda value: tale(RING, (), value))

    def test_fools_bent_at_one_place(self):
        fools = {repr(coming): coming for coming in plain_wits.fools(plain_wits.wastes(LINE, ()))}
        for value in bent((0, 3, 1, 2)):
            if repr(value) in fools:
                self.same_kind(tale(LINE, (), value), plain_twins.tale(LINE, (), value))
            else:
                self.fails(BadFool, tale, LINE, (), value)

    def test_only_a_shortest_fool(self):
        line = (5, ((0, 1), (1, 2), (2, 3)))
        for value in ((4, 0, 3, 1, 2), (0, 3, 1, 2, 4), (0, 3, 1, 4, 2)):
            self.fails(BadFool, tale, line, (), value)
        self.fails(BadFool, tale, LINE, UNLIKE, (0, 3, 1, 2))

    def test_none(self):
        for town in (ONE, LINE, STAR, RING, FULL, EMPTY):
            for wit in ((), UNLIKE, ((START, 7),)):
                self.fails(BadFool, tale, town, wit, None)

    def test_maps(self):
        self.fails_for_no_maps((
            lambda town: tale(town, (), ()), lambda town: tale(town, (), None), lambda town: tale(town, None, None),
            lambda town: tale(town, (None,), (0, 3, 1, 2))))

    def test_wits(self):
        for at, (wit, index) in enumerate(wrong.WITS + ((MANY, None),)):
            for value in (None, (), (0, 3, 1, 2), [0]):
                with self.subTest(at=at):
                    self.same_kind(self.fails(BadWit, tale, LINE, wit, value).index, index)

    def test_arguments_are_not_changed(self):
        value = [0, 3, 1, 2]
        self.fails(BadFool, tale, LINE, (), value)
        self.assertEqual(value, [0, 3, 1, 2])


if __name__ == "__main__":
    unittest.main()
