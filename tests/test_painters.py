"""That some painter never wastes just on maps without a bare row, and the least rule then does not."""

import unittest

from maskpaint.comings import most_wasted, paints, wasted
from maskpaint.maps import bare_rows, is_good, need
from maskpaint.wits import fool, follow, shows_fool, waste_of
from tests import plain, plain_wits
from tests.cases import PaintCase
from tests.drawn import drawn_wit, every_small_wit
from tests.towns import DRAWN, DRAWN_TREES, LARGER, SMALL, line_of, ring_of

GOOD = [plain.map_of(value) for value in DRAWN_TREES]
# Five houses are few enough to try all that a painter may do.
PLAYED = SMALL + [town for town in DRAWN + GOOD if town[0] == 5] + [line_of(5), ring_of(5)]


class TestPainters(PaintCase):
    def test_some_painter_never_wastes_just_without_a_bare_row(self):
        for town in PLAYED:
            self.assertIs(plain_wits.painter_never_wastes(town), is_good(town))
            self.assertIs(plain_wits.painter_never_wastes(town), bare_rows(town) == ())

    def test_the_least_rule_never_wastes_without_a_bare_row(self):
        for town in SMALL + LARGER + GOOD:
            good = bare_rows(town) == ()
            self.assertEqual((most_wasted(town), waste_of(town, ())) == (0, 0), good)
            self.assertEqual(fool(town, ()) is None, good)
            self.assertIs(shows_fool(town, (), None), good)

    def test_the_least_rule_needs_no_more_paints_than_the_houses_come(self):
        for town in [town for town in SMALL if bare_rows(town) == ()] + GOOD:
            for coming in plain.comings(town)[::7]:
                used = len(set(paints(town, coming)))
                self.assertEqual(used, need(town, tuple(sorted(coming))))
                self.assertEqual(wasted(town, coming), 0)

    def check_fooled(self, town, wit):
        found = fool(town, wit)
        self.assertIsNotNone(found)
        self.assertIs(shows_fool(town, wit, found), True)
        self.assertIs(shows_fool(town, wit, None), False)
        self.assertGreater(waste_of(town, wit), 0)
        told = follow(town, wit, found)
        self.assertGreater(len(set(told)), plain.need(town, sorted(found)))
        for at, one in enumerate(found):
            self.assertFalse(any(plain.beside(town, one, found[k]) and told[k] == told[at] for k in range(at)))

    def test_each_wit_about_two_houses_is_fooled_by_a_bare_row(self):
        for town in [town for town in SMALL if bare_rows(town) != ()]:
            for wit in every_small_wit():
                self.check_fooled(town, wit)

    def test_drawn_wits_are_fooled_by_a_bare_row(self):
        for town in [town for town in SMALL + LARGER if bare_rows(town) != ()]:
            for seed in range(6):
                self.check_fooled(town, drawn_wit(seed, town, 2 + 7 * seed, 1 + seed))

    def test_a_wit_made_for_a_map_is_fooled(self):
        # Told each time what the last coming would have needed, it is fooled by another one.
        town, told_by_view = line_of(4), {}
        for _ in range(40):
            wit = tuple(sorted(told_by_view.items()))
            self.check_fooled(town, wit)
            coming = fool(town, wit)
            links = tuple(plain_wits.link_of(town, coming[:at], house) for at, house in enumerate(coming))
            told = follow(town, wit, coming)
            free = [paint for paint in (1, 2) if paint not in [told[at] for at in links[-1]]]
            if not free:
                break
            told_by_view[(links, told[:-1])] = free[0]


if __name__ == "__main__":
    unittest.main()
