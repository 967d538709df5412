import unittest
from random import Random

from maskpaint.benches import Bench
from maskpaint.comings import paints, wasted
from maskpaint.errors import BadHouse, BadNumber, BadStep
from tests import plain, wrong
from tests.cases import PaintCase
from tests.towns import CROWN, DRAWN_TREES, EMPTY, FULL, LARGER, LINE, ONE, SMALL, STAR

TOWNS = SMALL[-12:] + LARGER + [plain.map_of(value) for value in DRAWN_TREES]
PAINTS = wrong.NUMBERS + (0, 8, 9, "1", (1,), [1])


def seen(bench):
    """All that a bench shows."""
    return bench.coming, bench.paints, bench.waste, bench.by_rule()


class PlainBench:
    """A list of those that have come, tried in the plainest way."""

    def __init__(self, town):
        self.town, self.rows = town, []

    def beside(self, house):
        return {paint for other, paint in self.rows if plain.beside(self.town, house, other)}

    def error_of(self, step):
        """The class of the error of a step: come, paint or back, with its arguments; or None."""
        if step[0] == "back":
            return None if self.rows else BadStep
        if step[1] not in range(self.town[0]):
            return BadHouse
        if step[0] == "paint" and step[2] not in range(1, 8):
            return BadNumber
        here = step[1] in [house for house, _ in self.rows]
        return BadStep if here or step[0] == "paint" and step[2] in self.beside(step[1]) else None

    def take(self, step):
        """Take a step that is allowed, and return its answer."""
        if step[0] == "back":
            self.rows.pop()
        elif step[0] == "paint":
            self.rows.append(step[1:])
        else:
            paint = min(set(range(1, 8)) - self.beside(step[1]))
            self.rows.append((step[1], paint))
            return paint

    def seen(self):
        coming, told = tuple(row[0] for row in self.rows), tuple(row[1] for row in self.rows)
        waste = len(set(told)) - plain.need(self.town, sorted(coming))
        return coming, told, waste, plain.paints(self.town, coming)


def drawn_step(chance, houses):
    word = chance.choice(("come", "come", "paint", "paint", "paint", "back"))
    house, paint = chance.randint(-1, houses), chance.choice((0, 1, 1, 2, 2, 3, 4, 5, 6, 7, 8))
    return {"come": ("come", house), "paint": ("paint", house, paint), "back": ("back",)}[word]


class TestExamples(PaintCase):
    def test_ring_of_five(self):
        bench = Bench((5, ((0, 1), (0, 4), (1, 2), (2, 3), (3, 4))))
        self.assertEqual(
            [bench.come(0), bench.come(3), bench.paint(4, 3), bench.come(2), bench.coming, bench.paints,
             bench.waste, bench.by_rule(), bench.back(), bench.waste],
            [1, 1, None, 2, (0, 3, 4, 2), (1, 1, 3, 2), 1, (1, 1, 2, 2), None, 0])
        self.fails(BadHouse, bench.come, 5)


class TestBench(PaintCase):
    def test_empty(self):
        for town in (ONE, LINE, FULL, EMPTY):
            bench = Bench(town)
            self.same_kind(bench.coming, ())
            self.same_kind(bench.paints, ())
            self.same_kind(bench.waste, 0)
            self.same_kind(bench.by_rule(), ())
            self.fails(BadStep, bench.back)
            self.same_kind(seen(bench), ((), (), 0, ()))

    def test_come_is_by_the_paints_that_were_told(self):
        bench = Bench(STAR)
        self.assertIsNone(bench.paint(1, 2))
        self.same_kind(bench.come(2), 1)
        self.same_kind(bench.come(0), 3)
        self.same_kind(seen(bench), ((1, 2, 0), (2, 1, 3), 1, (1, 1, 2)))

    def test_a_house_that_went_may_come_again(self):
        bench = Bench(LINE)
        self.assertEqual([bench.come(0), bench.come(1), bench.back(), bench.come(3), bench.come(1)], [1, 2, None, 1, 2])
        self.same_kind(seen(bench), ((0, 3, 1), (1, 1, 2), 0, (1, 1, 2)))
        self.assertEqual([bench.back(), bench.back(), bench.back()], [None, None, None])
        self.fails(BadStep, bench.back)
        self.same_kind(bench.come(1), 1)

    def test_seven_paints(self):
        bench = Bench(EMPTY)
        for house in range(7):
            self.assertIsNone(bench.paint(house, 7 - house))
            self.same_kind(bench.waste, house)
        self.same_kind(bench.paints, (7, 6, 5, 4, 3, 2, 1))
        self.same_kind(bench.by_rule(), (1, 1, 1, 1, 1, 1, 1))
        bench = Bench(FULL)
        self.assertEqual([bench.come(house) for house in (6, 0, 5, 1, 4, 2, 3)], [1, 2, 3, 4, 5, 6, 7])
        self.same_kind(bench.waste, 0)

    def test_what_it_showed_stays(self):
        bench = Bench(LINE)
        bench.come(2)
        before = seen(bench)
        bench.come(3)
        self.assertEqual(before, ((2,), (1,), 0, (1,)))
        self.assertEqual(bench.coming, (2, 3))

    def test_two_benches_of_one_map(self):
        one, other = Bench(CROWN), Bench(CROWN)
        one.come(0)
        other.paint(3, 5)
        self.assertEqual((one.coming, one.paints, other.coming, other.paints), ((0,), (1,), (3,), (5,)))

    def test_by_rule_and_waste_are_those_of_comings(self):
        for town in TOWNS:
            for coming in plain.comings(town)[::197]:
                bench = Bench(town)
                self.assertEqual(tuple(bench.come(house) for house in coming), paints(town, coming))
                told = paints(town, coming)
                self.assertEqual(seen(bench), (coming, told, wasted(town, coming), told))

    def test_drawn_steps(self):
        chance = Random(17)
        for town in TOWNS:
            bench, wanted = Bench(town), PlainBench(town)
            for _ in range(60):
                step = drawn_step(chance, town[0])
                error = wanted.error_of(step)
                call = getattr(bench, step[0])
                if error:
                    self.fails(error, call, *step[1:])
                else:
                    self.same_kind(call(*step[1:]), wanted.take(step))
                self.same_kind(seen(bench), wanted.seen())


class TestWrongArguments(PaintCase):
    def setUp(self):
        self.bench = Bench(LINE)
        self.bench.come(2)
        self.bench.paint(0, 3)
        self.before = seen(self.bench)

    def tearDown(self):
        # A call that raises an error changes nothing.
        self.same_kind(seen(self.bench), self.before)

    def test_maps(self):
        self.fails_for_no_maps((Bench,))

    def test_houses(self):
        self.fails_for_each(BadHouse, wrong.HOUSES, self.bench.come)
        self.fails_for_each(BadHouse, wrong.HOUSES, lambda house: self.bench.paint(house, 1))
        self.fails(BadHouse, Bench(ONE).come, 1)
        self.fails(BadHouse, Bench(FULL).come, 7)

    def test_paints(self):
        self.fails_for_each(BadNumber, PAINTS, lambda paint: self.bench.paint(1, paint))

    def test_steps(self):
        self.fails(BadStep, self.bench.come, 2)
        self.fails(BadStep, self.bench.come, 0)
        self.fails(BadStep, self.bench.paint, 2, 1)
        self.fails(BadStep, self.bench.paint, 2, 5)
        self.fails(BadStep, self.bench.paint, 0, 3)
        self.fails(BadStep, self.bench.paint, 1, 1)
        self.fails(BadStep, self.bench.paint, 1, 3)
        self.fails(BadStep, self.bench.paint, 3, 1)

    def test_leftmost_error_first_and_steps_last(self):
        for house in wrong.HOUSES:
            for paint in (None, 0, 8, 1, 3, True):
                self.fails(BadHouse, self.bench.paint, house, paint)
        for house in (0, 1, 2, 3):
            for paint in PAINTS:
                self.fails(BadNumber, self.bench.paint, house, paint)

    def test_no_neighbor_has_the_paint(self):
        # The paint of a house that is no neighbor may be told again.
        self.bench.paint(3, 3)
        self.assertEqual((self.bench.coming, self.bench.paints), ((2, 0, 3), (1, 3, 3)))
        self.bench.back()


if __name__ == "__main__":
    unittest.main()
