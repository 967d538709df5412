"""That answers go together: on a map and on the same one with other names of the houses, and among themselves."""

import unittest

from maskpaint.benches import Bench
from maskpaint.comings import (
    most_wasted, paints, shows_worst_lots, wasted, worst, worst_coming, worst_lots)
from maskpaint.desks import Desk
from maskpaint.goods import mends, other_side
from maskpaint.maps import bare_rows, count_paintings, is_good, left_out, most_mutual, near, need
from maskpaint.pots import by_pots, fewest_away, sent_away, shows_slip, slip
from maskpaint.tales import tale
from maskpaint.texts import coming_text, map_text, read_coming, read_map, read_tree, tree_text
from maskpaint.trees import map_of, shows_tree, tree, tree_need, tree_paintings
from maskpaint.twins import may_come, shows_twin_row, twin_row, twins, with_house
from maskpaint.wits import fool, follow, shows_fool, waste_of
from tests import plain, plain_wits
from tests.cases import PaintCase
from tests.drawn import drawn_wit
from tests.towns import DRAWN_TREES, LARGER, SMALL

TOWNS = SMALL[::3] + LARGER + [plain.map_of(value) for value in DRAWN_TREES]
NAMES = (6, 2, 4, 0, 5, 1, 3), (1, 0, 3, 2, 6, 4, 5), (3, 6, 0, 2, 1, 5, 4)


def names_for(town, names):
    """The new names of the houses of a map, by their old ones."""
    return [name for name in names if name < town[0]]


def renamed(names, lot):
    return tuple(sorted(names[house] for house in lot))


def renamed_all(names, lots):
    return tuple(sorted(renamed(names, lot) for lot in lots))


def in_sequence(names, coming):
    return tuple(names[house] for house in coming)


def renamed_tree(names, part):
    if isinstance(part, int):
        return names[part]
    return part[0], tuple(renamed_tree(names, inner) for inner in part[1])


class TestOtherNames(PaintCase):
    def each_pair(self):
        """Each map, the new names of its houses, and the map with these."""
        for at, town in enumerate(TOWNS):
            names = names_for(town, NAMES[at % 3])
            yield town, names, (town[0], renamed_all(names, town[1]))

    def test_maps(self):
        for town, names, other in self.each_pair():
            for house in range(town[0]):
                self.assertEqual(near(other, names[house]), renamed(names, near(town, house)))
            for lot in plain.lots_of(town)[::5]:
                self.assertEqual(need(other, renamed(names, lot)), need(town, lot))
            self.assertEqual(count_paintings(other, 4), count_paintings(town, 4))
            self.assertEqual(most_mutual(other), renamed_all(names, most_mutual(town)))
            self.assertEqual(left_out(other), renamed_all(names, left_out(town)))
            self.assertEqual(is_good(other), is_good(town))
            rows = [in_sequence(names, row) for row in bare_rows(town)]
            self.assertEqual(bare_rows(other), tuple(sorted(min(row, row[::-1]) for row in rows)))

    def test_trees(self):
        for town, names, other in self.each_pair():
            found = tree(town)
            self.assertEqual(found is None, tree(other) is None)
            if found is not None:
                value = renamed_tree(names, found)
                self.assertIs(shows_tree(other, value), True)
                self.assertEqual(map_of(value), other)
                self.assertEqual(tree_need(value), tree_need(found))
                self.assertEqual(tree_paintings(value, 3), tree_paintings(found, 3))

    def test_comings(self):
        for town, names, other in self.each_pair():
            for coming in plain.comings(town)[::211]:
                self.assertEqual(paints(other, in_sequence(names, coming)), paints(town, coming))
                self.assertEqual(wasted(other, in_sequence(names, coming)), wasted(town, coming))
            self.assertEqual((worst(other), most_wasted(other)), (worst(town), most_wasted(town)))
            self.assertEqual(len(worst_coming(other)), len(worst_coming(town)))
            heaps = tuple(renamed(names, heap) for heap in worst_lots(town))
            self.assertIs(shows_worst_lots(other, heaps), True)
            self.assertIs(shows_worst_lots(other, heaps[1:]), False)

    def test_wits(self):
        for seed, (town, names, other) in enumerate(self.each_pair()):
            wit = drawn_wit(seed, town, 2 + seed % 20, 1 + seed % 4)
            for coming in plain.comings(town)[::211]:
                self.assertEqual(follow(other, wit, in_sequence(names, coming)), follow(town, wit, coming))
            self.assertEqual(waste_of(other, wit), waste_of(town, wit))
            found, shown = fool(town, wit), fool(other, wit)
            self.assertIs(shows_fool(other, wit, None if found is None else in_sequence(names, found)), True)
            self.assertEqual(found is None, shown is None)

    def test_good_maps(self):
        for town, names, other in self.each_pair():
            self.assertEqual(mends(other), renamed_all(names, mends(town)))
            self.assertEqual(other_side(other), (town[0], renamed_all(names, other_side(town)[1])))

    def test_benches(self):
        for town, names, other in self.each_pair():
            one, two = Bench(town), Bench(other)
            for house in range(town[0]):
                if house == 1:
                    one.paint(house, 5)
                    two.paint(names[house], 5)
                else:
                    self.assertEqual(one.come(house), two.come(names[house]))
                self.assertEqual((one.paints, one.waste, one.by_rule()), (two.paints, two.waste, two.by_rule()))
                self.assertEqual(in_sequence(names, one.coming), two.coming)

    def test_twins(self):
        for town, names, other in self.each_pair():
            named = [(renamed(names, (one, two)) + (word,)) for one, two, word in twins(town)]
            self.assertEqual(twins(other), tuple(sorted(named)))
            row = twin_row(town)
            self.assertIs(shows_twin_row(other, None if row is None else in_sequence(names, row)), True)
            if town[0] < 7:
                more = names + [town[0]]
                for lot in plain.lots_of(town)[::5]:
                    grown, named = with_house(town, lot), with_house(other, renamed(names, lot))
                    self.assertEqual(named, (grown[0], renamed_all(more, grown[1])))
                self.assertEqual(may_come(other), renamed_all(names, may_come(town)))

    def test_pots(self):
        for town, names, other in self.each_pair():
            for coming in plain.comings(town)[::211]:
                named = in_sequence(names, coming)
                for pots in (1, 2, 3):
                    self.assertEqual(by_pots(other, named, pots), by_pots(town, coming, pots))
                    self.assertEqual(sent_away(other, named, pots), in_sequence(names, sent_away(town, coming, pots)))
            for lot in plain.lots_of(town)[::5]:
                self.assertEqual(fewest_away(other, renamed(names, lot), 2), fewest_away(town, lot, 2))
            found = slip(town)
            self.assertIs(shows_slip(other, None if found is None else (in_sequence(names, found[0]), found[1])), True)

    def test_tales(self):
        for seed, (town, names, other) in enumerate(self.each_pair()):
            wit = drawn_wit(seed, town, 2 + seed % 20, 1 + seed % 4)
            found = fool(town, wit)
            if found is not None:
                lines, named = (tale(one, wit, coming).splitlines() for one, coming in (
                    (town, found), (other, in_sequence(names, found))))
                self.assertEqual(
                    [line.split(":")[-1] for line in lines], [line.split(":")[-1] for line in named])


class TestAgreement(PaintCase):
    def test_trees_and_needs(self):
        for town in TOWNS:
            found, everyone = tree(town), tuple(range(town[0]))
            self.assertEqual(found is not None, is_good(town))
            if found is not None:
                self.assertEqual(tree_need(found), need(town, everyone))
                self.assertEqual(tree_need(found), len(most_mutual(town)[0]))
                self.assertEqual(tree_need(found), worst(town))
                self.assertEqual(tree_paintings(found, 5), count_paintings(town, 5))
                self.assertEqual(read_tree(tree_text(found)), found)

    def test_heaps_and_comings(self):
        for town in TOWNS:
            coming = worst_coming(town)
            self.assertEqual(len(set(paints(town, coming))), worst(town))
            self.assertEqual(len(worst_lots(town)), worst(town))
            by_heaps = tuple(house for heap in worst_lots(town) for house in heap)
            self.assertEqual(max(paints(town, by_heaps)), worst(town))
            self.assertLessEqual(wasted(town, coming), most_wasted(town))

    def test_the_wit_without_views_goes_by_the_least_rule(self):
        for town in TOWNS:
            self.assertEqual(waste_of(town, ()), most_wasted(town))
            for coming in plain.comings(town)[::211]:
                self.assertEqual(follow(town, (), coming), paints(town, coming))
            found = fool(town, ())
            if found is not None:
                self.assertGreater(wasted(town, found), 0)

    def test_a_wit_that_tells_the_least_paints_is_the_wit_without_views(self):
        least = {}
        for (links, told), paint in reversed(plain_wits.ALL_TELLINGS):
            if len(links) == 3 and max(told) <= 3:
                least[(links, told)] = min({1, 2, 3, 4} - {told[place] for place in links[-1]})
        wit = tuple(sorted(least.items()))
        for town in TOWNS[::4]:
            self.assertEqual(waste_of(town, wit), waste_of(town, ()))
            for coming in plain.comings(town)[::101]:
                self.assertEqual(follow(town, wit, coming), paints(town, coming))

    def test_fools_and_wastes(self):
        for seed, town in enumerate(TOWNS):
            wit = drawn_wit(seed + 50, town, 3, 1)
            found = fool(town, wit)
            self.assertEqual(found is None, waste_of(town, wit) == 0)
            if found is not None:
                waste = len(set(follow(town, wit, found))) - need(town, tuple(sorted(found)))
                self.assertTrue(0 < waste <= waste_of(town, wit))
                self.assertEqual(len(set(follow(town, wit, found[:-1]))), need(town, tuple(sorted(found[:-1]))))

    def test_a_bench_that_is_told_what_a_wit_paints(self):
        for seed, town in enumerate(TOWNS):
            wit = drawn_wit(seed, town)
            waste = waste_of(town, wit)
            for coming in plain.comings(town)[-1::-977]:
                bench = Bench(town)
                for house, paint in zip(coming, follow(town, wit, coming)):
                    bench.paint(house, paint)
                self.assertEqual(bench.paints, follow(town, wit, coming))
                self.assertTrue(0 <= bench.waste <= waste)
                self.assertEqual(bench.by_rule(), paints(town, coming))

    def test_twins_and_trees(self):
        for town in TOWNS:
            self.assertEqual(twin_row(town) is None, tree(town) is None)
            self.assertEqual(len(may_come(town)) > 0 if town[0] < 7 else is_good(town), is_good(town))
            # Who are near twins here are twins apart on the other side.
            turned = {"near": "apart", "apart": "near"}
            self.assertEqual(
                twins(other_side(town)), tuple((one, two, turned[word]) for one, two, word in twins(town)))
            self.assertIs(shows_twin_row(other_side(town), twin_row(town)), True)

    def test_a_map_that_grows_by_the_houses_of_another(self):
        for town in TOWNS:
            grown = (1, ())
            for house in range(1, town[0]):
                grown = with_house(grown, tuple(other for other in near(town, house) if other < house))
            self.assertEqual(grown, town)

    def test_pots_and_needs(self):
        for town in TOWNS:
            for lot in plain.lots_of(town)[::5]:
                least = need(town, lot)
                for pots in (0, least, least + 1, 9):
                    self.assertIs(fewest_away(town, lot, pots) == 0, least <= pots)
            for coming in plain.comings(town)[::211]:
                told = paints(town, coming)
                self.assertEqual(by_pots(town, coming, 9), told)
                for pots in range(4):
                    away, lot = sent_away(town, coming, pots), tuple(sorted(coming))
                    self.assertEqual(by_pots(town, coming, pots).count(None), len(away))
                    self.assertGreaterEqual(len(away), fewest_away(town, lot, pots))
                    if is_good(town) and need(town, lot) <= pots:
                        self.assertEqual(away, ())

    def test_a_slip_is_a_fool_of_the_least_rule(self):
        for town in TOWNS:
            found = slip(town)
            self.assertEqual(found is None, fool(town, ()) is None)
            if found is not None:
                coming, pots = found
                self.assertIs(shows_fool(town, (), coming), True)
                self.assertIs(shows_slip(town, (fool(town, ()), pots)), True)
                self.assertIn(None, by_pots(town, coming, pots))
                self.assertEqual(paints(town, coming)[-1], pots + 1)

    def test_the_last_lines_of_tales(self):
        for seed, town in enumerate(TOWNS):
            for wit in ((), drawn_wit(seed, town, 3, 1)):
                found = fool(town, wit)
                if found is not None:
                    used, needed = len(set(follow(town, wit, found))), need(town, tuple(sorted(found)))
                    *lines, last = tale(town, wit, found).splitlines()
                    self.assertEqual(last, f"paints {used}, needed {needed}")
                    self.assertEqual([int(line.split()[1]) for line in lines], list(found))
                    told = tuple(int(line.split(": ")[1].split(",")[0]) for line in lines)
                    self.assertEqual(told, follow(town, wit, found))

    def test_a_desk_that_is_told_what_a_wit_paints(self):
        for seed, town in enumerate(TOWNS):
            wit, coming = drawn_wit(seed, town), plain.comings(town)[-1 - seed]
            desk, told = Desk(town), follow(town, wit, coming)
            for house, paint in zip(coming, told):
                self.assertEqual(desk.do(f"paint {house} {paint}"), "done")
            self.assertEqual(desk.do("coming"), coming_text(town, coming))
            self.assertEqual(desk.do("paints").split(), [str(paint) for paint in told])
            self.assertEqual(desk.do("rule").split(), [str(paint) for paint in paints(town, coming)])
            self.assertEqual(int(desk.do("waste")), len(set(told)) - need(town, tuple(sorted(coming))))

    def test_mends_and_texts(self):
        for town in TOWNS:
            for pair in mends(town):
                pairs = tuple(sorted(set(town[1]) ^ {pair}))
                self.assertIs(is_good((town[0], pairs)), True)
            self.assertEqual(read_map(map_text(other_side(town))), other_side(town))
            coming = worst_coming(town)
            self.assertEqual(read_coming(town, coming_text(town, coming)), coming)

    def test_equal_arguments_have_equal_answers(self):
        for seed, town in enumerate(TOWNS[::5]):
            wit, again = drawn_wit(seed, town), (town[0], tuple(list(town[1])))
            for call in (tree, worst, most_wasted, mends, other_side, map_text, bare_rows):
                self.assertEqual(call(town), call(again))
            self.assertEqual(waste_of(town, wit), waste_of(again, wit))


if __name__ == "__main__":
    unittest.main()
