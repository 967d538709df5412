import re
import unittest
from itertools import product
from random import Random

from maskpaint.benches import Bench
from maskpaint.desks import Desk
from maskpaint.errors import BadHouse, BadLine, BadNumber, BadStep, PaintError
from tests import plain, wrong
from tests.cases import PaintCase
from tests.drawn import bent_texts
from tests.towns import CROWN, DRAWN_TREES, EMPTY, FULL, LARGER, LINE, ONE, RING, SMALL, STAR, ring_of

TOWNS = SMALL[-12:] + LARGER + [plain.map_of(value) for value in DRAWN_TREES]
SHOWS = ("coming", "paints", "rule", "waste")
FORM = re.compile("come [0-9]|paint [0-9] [0-9]|back|coming|paints|rule|waste")
SIGNS = "0149 -\n\t\rcpabx\u00b2\u0663\x0b\u2028"
NO_STRINGS = (
    None, True, False, 0, 3, -1, wrong.HUGE, (), ("back",), ("come", 0), ("come 0",), [], ["back"], ["come", "0"],
    {}, {"back": 0}, {"come": 0}, wrong.nested(3000))
NO_LINES = (
    "", " ", "  ", "\n", "0", "do", "do back", "done", "help", "None", "True", "()", "_bench", "__init__", "by_rule",
    "come", "come ", "come  ", "come  0", " come 0", "come 0 ", "come 0  ", "come\t0", "come\n0", "come 0\n",
    "come 0\r\n", "\ncome 0", "come 00", "come 10", "come 01", "come -1", "come +1", "come 0.", "come x",
    "come \u0660", "come \u00b2", "come \uff10", "come 0 1", "come0", "come, 0", "come (0)", "Come 0", "COME 0",
    "comes 0", "com 0", "0 come", "come None", "come True", "come 0;back", "come " + "0" * 3000, "come" + " 0" * 3000,
    "paint", "paint ", "paint 0", "paint 0 ", "paint  0", "paint 0  1", "paint  0 1", "paint 0 1 ", " paint 0 1",
    "paint 0 1 2", "paint 0 10", "paint 00 1", "paint 0 01", "paint 10 1", "paint 0 -1", "paint -1 1", "paint 0,1",
    "paint 0 x", "paint x 1", "paint 0 \u0661", "paint 0\t1", "paint 0 1\n", "paint01", "paint 01", "Paint 0 1",
    "paint 0 None", "back ", " back", "back 0", "back 1", "back\n", "Back", "backs", "back back", "bac",
    "coming ", " coming", "coming 0", "coming\n", "Coming", "comings", "coming\ncoming",
    "paints ", " paints", "paints 0", "paints 0 1", "paints\n", "Paints",
    "rule ", " rule", "rule 0", "rule\n", "Rule", "rules",
    "waste ", " waste", "waste 0", "waste\n", "Waste", "wastes", "wasted")


def shown(desk):
    return [desk.do(word) for word in SHOWS]


def led(bench, line):
    """The answer that a desk gives to a line that has the form of one, by a bench that does the step."""
    word, *numbers = line.split(" ")
    numbers = [int(number) for number in numbers]
    if word == "come":
        return str(bench.come(*numbers))
    if word in ("paint", "back"):
        return getattr(bench, word)(*numbers) or "done"
    found = {"coming": bench.coming, "paints": bench.paints, "rule": bench.by_rule(), "waste": (bench.waste,)}[word]
    return " ".join(map(str, found))


class DeskCase(PaintCase):
    def answers(self, desk, rows):
        for line, answer in rows:
            self.same_kind(desk.do(line), answer)

    def no_line(self, desk, line):
        """Check that a value is no line for a desk, and changes nothing."""
        before = shown(desk)
        self.same_kind(self.fails(BadLine, desk.do, line).line, 0)
        self.assertEqual(shown(desk), before)

    def do_beside(self, desk, bench, line):
        """Check that a desk does with a line what a bench does with the step, and shows the same then."""
        try:
            wanted = led(bench, line)
        except PaintError as error:
            self.fails(type(error), desk.do, line)
        else:
            self.same_kind(desk.do(line), wanted)
        for word in SHOWS:
            self.same_kind(desk.do(word), led(bench, word))


class TestExamples(DeskCase):
    def test_line_of_four(self):
        desk = Desk((4, ((0, 1), (1, 2), (2, 3))))
        self.assertEqual(
            [desk.do("come 0"), desk.do("come 3"), desk.do("paint 1 2"), desk.do("come 2"), desk.do("waste"),
             desk.do("coming"), desk.do("paints"), desk.do("rule"), desk.do("back")],
            ["1", "1", "done", "3", "1", "0 3 1 2", "1 1 2 3", "1 1 2 3", "done"])
        self.same_kind(self.fails(BadLine, desk.do, "come").line, 0)


class TestDesk(DeskCase):
    def test_nobody_has_come(self):
        for town in (ONE, LINE, FULL, EMPTY):
            desk = Desk(town)
            self.answers(desk, (("coming", ""), ("paints", ""), ("rule", ""), ("waste", "0")))
            self.fails(BadStep, desk.do, "back")
            self.answers(desk, (("coming", ""), ("come 0", "1"), ("coming", "0"), ("back", "done"), ("coming", "")))

    def test_the_least_rule_goes_by_told_paints_but_rule_does_not(self):
        self.answers(Desk(STAR), (
            ("paint 1 2", "done"), ("come 2", "1"), ("come 0", "3"), ("paints", "2 1 3"), ("rule", "1 1 2"),
            ("coming", "1 2 0"), ("waste", "1"), ("back", "done"), ("waste", "1"), ("back", "done"), ("waste", "0")))

    def test_seven_houses(self):
        desk = Desk(EMPTY)
        self.answers(desk, [(f"paint {house} {7 - house}", "done") for house in range(7)])
        self.answers(desk, (
            ("coming", "0 1 2 3 4 5 6"), ("paints", "7 6 5 4 3 2 1"), ("rule", "1 1 1 1 1 1 1"), ("waste", "6")))
        desk = Desk(FULL)
        self.answers(desk, [(f"come {house}", str(7 - house)) for house in (6, 5, 4, 3, 2, 1, 0)])
        self.answers(desk, (("coming", "6 5 4 3 2 1 0"), ("paints", "1 2 3 4 5 6 7"), ("waste", "0")))

    def test_two_desks_of_one_map(self):
        one, other = Desk(CROWN), Desk(CROWN)
        self.answers(one, (("come 0", "1"),))
        self.answers(other, (("paint 3 5", "done"), ("coming", "3"), ("paints", "5")))
        self.answers(one, (("coming", "0"), ("paints", "1")))

    def test_drawn_lines_beside_a_bench(self):
        chance = Random(44)
        for town in TOWNS:
            desk, bench = Desk(town), Bench(town)
            for _ in range(60):
                word = chance.choice(("come", "come", "paint", "paint", "paint", "back"))
                house, paint = chance.randint(0, town[0]), chance.choice((0, 1, 1, 2, 2, 3, 4, 5, 6, 7, 8, 9))
                line = {"come": f"come {house}", "paint": f"paint {house} {paint}", "back": "back"}[word]
                self.do_beside(desk, bench, line)

    def test_each_line_that_there_is(self):
        lines = [f"come {house}" for house in range(10)] + ["back", "back", *SHOWS]
        lines += [f"paint {house} {paint}" for house, paint in product(range(10), repeat=2)]
        for town in (ONE, LINE, STAR, RING, ring_of(5), CROWN, EMPTY, FULL):
            for first in ("come 0", "paint 0 3", "back"):
                desk, bench = Desk(town), Bench(town)
                self.do_beside(desk, bench, first)
                for line in lines:
                    self.do_beside(desk, bench, line)


class TestWrongLines(DeskCase):
    def setUp(self):
        self.desk = Desk(LINE)
        self.answers(self.desk, (("come 2", "1"), ("paint 0 3", "done")))

    def tearDown(self):
        # A line that raises an error changes nothing.
        self.assertEqual(shown(self.desk), ["2 0", "1 3", "1 1", "1"])

    def test_errors_of_a_bench(self):
        rows = (
            ("come 4", BadHouse), ("come 9", BadHouse), ("paint 4 1", BadHouse), ("paint 9 0", BadHouse),
            ("paint 4 8", BadHouse), ("paint 1 0", BadNumber), ("paint 1 8", BadNumber), ("paint 3 9", BadNumber),
            ("paint 2 0", BadNumber), ("paint 0 8", BadNumber), ("come 2", BadStep), ("come 0", BadStep),
            ("paint 2 1", BadStep), ("paint 2 5", BadStep), ("paint 0 3", BadStep), ("paint 1 1", BadStep),
            ("paint 1 3", BadStep), ("paint 3 1", BadStep))
        for line, error in rows:
            with self.subTest(line=line):
                self.fails(error, self.desk.do, line)
        self.fails(BadStep, Desk(LINE).do, "back")
        self.fails(BadHouse, Desk(ONE).do, "come 1")
        self.fails(BadHouse, Desk(FULL).do, "paint 7 7")

    def test_values_that_are_no_lines(self):
        for at, line in enumerate(NO_STRINGS + NO_LINES):
            with self.subTest(at=at):
                self.no_line(self.desk, line)

    def test_also_where_nobody_has_come(self):
        desk = Desk(ONE)
        for line in NO_STRINGS + NO_LINES:
            self.no_line(desk, line)

    def test_lines_bent_at_one_place(self):
        for line in ("come 1", "paint 1 2", "back", "coming", "paints", "rule", "waste"):
            for value in bent_texts(line, SIGNS):
                with self.subTest(line=value):
                    desk, bench = Desk(RING), Bench(RING)
                    self.do_beside(desk, bench, "come 1")
                    if FORM.fullmatch(value):
                        self.do_beside(desk, bench, value)
                    else:
                        self.no_line(desk, value)

    def test_lines_of_some_words(self):
        words = ("come", "paint", "paints", "back", "waste", "0", "1", "9", "10", "", "x")
        for many in range(1, 5):
            for row in product(words, repeat=many):
                line = " ".join(row)
                if not FORM.fullmatch(line):
                    self.fails(BadLine, self.desk.do, line)

    def test_maps(self):
        self.fails_for_no_maps((Desk,))

    def test_arguments_are_not_changed(self):
        line = ["come", "1"]
        self.no_line(self.desk, line)
        self.assertEqual(line, ["come", "1"])


if __name__ == "__main__":
    unittest.main()
