import unittest

from maskpaint.errors import BadComing, BadLine, BadText, BadTree, BadWit
from maskpaint.texts import (
    coming_text, map_text, read_coming, read_map, read_tree, read_wit, tree_text, wit_text)
from tests import plain, plain_texts, plain_wits, wrong
from tests.cases import PaintCase
from tests.drawn import MANY, bent_texts, drawn_wit
from tests.towns import DRAWN_TREES, EMPTY, FULL, LARGER, LINE, ONE, SMALL, STAR

NO_STRINGS = (
    None, True, False, 0, 3, -1, wrong.HUGE, (), ("houses 1\n",), (1, ()), [], ["0"], {}, {"0": 0},
    (("side", (0, 1)),), (0, 1))
# Signs that look like figures or ends of lines, among others.
SIGNS = "0167 -|\n\t\r,()sal9\u00b2\u0663\x0b\u2028"
GOOD = [plain.map_of(value) for value in DRAWN_TREES]


class TextCase(PaintCase):
    def check_bent(self, texts, read, write, wrong_line):
        """Check that texts are read, or the error names the line that a plain trial finds."""
        for text in texts:
            line = wrong_line(text)
            with self.subTest(text=text):
                if line is None:
                    self.assertEqual(write(read(text)), text)
                else:
                    self.same_kind(self.fails(BadLine, read, text).line, line)

    def check_lines(self, read, rows):
        for text, line in rows:
            with self.subTest(text=text):
                self.same_kind(self.fails(BadLine, read, text).line, line)


class TestExamples(PaintCase):
    def test_texts(self):
        line, star = (4, ((0, 1), (1, 2), (2, 3))), (4, ((0, 1), (0, 2), (0, 3)))
        self.assertEqual(
            [map_text(star), read_map("houses 2\n0 - 1\n"), tree_text(("all", (0, ("side", (1, 2))))),
             read_tree("side(1,0)"), coming_text(line, (0, 3)), read_coming(line, "3 1"),
             wit_text((((((), ()), (1,)), 2),)), read_wit("- 0 | 1 | 3\n")],
            ["houses 4\n0 - 1\n0 - 2\n0 - 3\n", (2, ((0, 1),)), "all(0,side(1,2))", ("side", (1, 0)), "0 3",
             (3, 1), "- - | 1 | 2\n", (((((), (0,)), (1,)), 3),)])

    def test_wrong_texts(self):
        self.assertEqual(self.fails(BadText, read_tree, "side(0)").place, 6)
        self.assertEqual(self.fails(BadLine, read_map, "houses 2\n1 - 0\n").line, 1)


class TestMapTexts(TextCase):
    def test_told(self):
        self.same_kind(map_text(ONE), "houses 1\n")
        self.same_kind(map_text(EMPTY), "houses 7\n")
        self.same_kind(read_map("houses 1\n"), ONE)
        self.same_kind(read_map("houses 7\n5 - 6\n"), (7, ((5, 6),)))

    def test_each_map(self):
        for town in SMALL + LARGER + GOOD:
            self.same_kind(map_text(town), plain_texts.map_text(town))
            self.same_kind(read_map(map_text(town)), town)

    def test_lines_that_are_wrong(self):
        self.check_lines(read_map, (
            ("", 0), ("\n", 0), ("\n\n", 0), ("houses", 0), ("houses 2", 0), ("houses\n", 0), ("houses \n", 0),
            ("houses 0\n", 0), ("houses 8\n", 0), ("houses 07\n", 0), ("houses 10\n", 0), ("houses -1\n", 0),
            ("houses  2\n", 0), (" houses 2\n", 0), ("houses 2 \n", 0), ("Houses 2\n", 0), ("house 2\n", 0),
            ("houses 2\r\n", 0), ("houses\t2\n", 0), ("houses two\n", 0), ("2\n", 0), ("2 houses\n", 0),
            ("\nhouses 2\n", 0), ("houses \u0662\n", 0), ("houses \u00b2\n", 0), ("houses 2\x0b0 - 1\n", 0),
            ("houses 2\u20280 - 1\n", 0), ("houses 9\n0 - 1", 1), ("houses 2\n0 - 1", 1), ("houses 2\n ", 1),
            ("houses 2\n\n", 1), ("houses 2\n0-1\n", 1), ("houses 2\n0 -1\n", 1), ("houses 2\n0 - 1 \n", 1),
            ("houses 2\n 0 - 1\n", 1), ("houses 2\n0  - 1\n", 1), ("houses 2\n0 - 2\n", 1), ("houses 2\n0 - 0\n", 1),
            ("houses 2\n0 + 1\n", 1), ("houses 2\n0 - 01\n", 1), ("houses 2\n0 - 1 - 1\n", 1),
            ("houses 2\n0 - \n", 1), ("houses 2\n - 1\n", 1), ("houses 2\n-1 - 0\n", 1), ("houses 2\na - b\n", 1),
            ("houses 2\n0 - 1\n0 - 1\n", 2), ("houses 2\n0 - 1\n\n", 2), ("houses 2\n0 - 1\nhouses 2\n", 2),
            ("houses 3\n0 - 2\n0 - 1\n", 2), ("houses 3\n1 - 2\n0 - 1\n", 2), ("houses 3\n0 - 3\n0 - 1\n1 - 0\n", 1),
            ("houses 1\n0 - 1\n", 1), ("x\ny\nz", 2), ("houses 3\n1 - 0\n0 - 2\n1 - 2", 3),
            ("houses 1\n" + "\n" * 3000, 1)))

    def test_more_pairs_than_there_are(self):
        text = map_text(FULL)
        self.same_kind(read_map(text), FULL)
        self.same_kind(self.fails(BadLine, read_map, text + "5 - 6\n").line, 22)

    def test_texts_bent_at_one_place(self):
        for town in (ONE, LINE, STAR, (3, ((0, 1), (0, 2), (1, 2))), (7, ((0, 6), (5, 6)))):
            texts = bent_texts(plain_texts.map_text(town), SIGNS)
            self.check_bent(texts, read_map, map_text, plain_texts.wrong_map_line)

    def test_lines_turned(self):
        for town in LARGER[::4]:
            lines = plain_texts.map_text(town).splitlines(keepends=True)
            texts = ["".join(lines[:at] + lines[at:at + 2][::-1] + lines[at + 2:]) for at in range(len(lines))]
            self.check_bent(texts, read_map, map_text, plain_texts.wrong_map_line)

    def test_no_strings(self):
        self.fails_for_each(BadLine, NO_STRINGS, read_map)
        for value in NO_STRINGS:
            self.same_kind(self.fails(BadLine, read_map, value).line, 0)

    def test_maps_that_are_wrong(self):
        self.fails_for_no_maps((map_text,))


class TestWitTexts(TextCase):
    def test_told(self):
        self.same_kind(wit_text(()), "")
        self.same_kind(read_wit(""), ())
        self.same_kind(wit_text((((((),), ()), 7),)), "- | | 7\n")
        self.same_kind(read_wit("- | | 7\n"), (((((),), ()), 7),))
        seven = ((((), (0,), (0, 1), (), (3,), (0, 1, 2, 3, 4), (0, 5)), (1, 2, 3, 1, 4, 7)), 6)
        text = "- 0 01 - 3 01234 05 | 1 2 3 1 4 7 | 6\n"
        self.same_kind(wit_text((seven,)), text)
        self.same_kind(read_wit(text), (seven,))

    def test_each_pair_about_three_houses_or_fewer(self):
        for telling in plain_wits.ALL_TELLINGS:
            text = plain_texts.wit_text((telling,))
            self.same_kind(wit_text((telling,)), text)
            self.same_kind(read_wit(text), (telling,))

    def test_drawn_wits(self):
        for seed, town in enumerate(LARGER):
            wit = drawn_wit(seed, town, 5 * seed)
            self.same_kind(wit_text(wit), plain_texts.wit_text(wit))
            self.same_kind(read_wit(wit_text(wit)), wit)

    def test_three_hundred_lines_and_one_more(self):
        text = plain_texts.wit_text(MANY[:300])
        self.same_kind(wit_text(MANY[:300]), text)
        self.same_kind(read_wit(text), MANY[:300])
        self.check_lines(read_wit, (
            (plain_texts.wit_text(MANY), 300), (text + "\n", 300), (text + "- | | 1\n", 300), (text + "x\ny\n", 300),
            (text + "- | | 1", 300), (text[:-1], 299), (text + "\n\n", 300), (text + "\nx", 301),
            ("- | | 8\n" + plain_texts.wit_text(MANY), 0), (plain_texts.wit_text(MANY[:299]) + "\n\n", 299),
            ("- | | 1\n" * 301, 1)))

    def test_lines_that_are_wrong(self):
        self.check_lines(read_wit, (
            ("\n", 0), (" ", 0), ("- | | 1", 0), ("| | 1\n", 0), ("- | 1\n", 0), ("- | |1\n", 0), ("- || 1\n", 0),
            ("- |  | 1\n", 0), ("- | | 0\n", 0), ("- | | 8\n", 0), ("- | | 01\n", 0), ("- | | \n", 0), ("- | |\n", 0),
            ("- | | 1 \n", 0), (" - | | 1\n", 0), ("- | | 1 1\n", 0), ("- | | 9 1\n", 0), ("- - | 1 | 2 2\n", 0),
            ("- | | | 1\n", 0), ("- | 1\n", 0), ("|\n", 0), ("1\n", 0), ("| 1\n", 0), ("- - | 1 2\n", 0),
            ("0 | | 1\n", 0), ("-- | | 1\n", 0), ("- | 1 | 1\n", 0),
            ("- - | | 1\n", 0), ("- - | 1 2 | 1\n", 0), ("- - | 1  | 1\n", 0), ("- 0 | 1 | 1\n", 0),
            ("- 1 | 1 | 2\n", 0), ("- 00 | 1 | 2\n", 0), ("- -0 | 1 | 2\n", 0), ("- - 10 | 1 2 | 3\n", 0),
            ("- - 0 1 | 1 2 | 3\n", 0), ("- - 01 | 12 | 3\n", 0), ("- 0 - | 1 1 | 2\n", 0), ("- 0 - | 1 9 | 2\n", 0),
            ("- - - - - - - - | 1 1 1 1 1 1 1 | 1\n", 0), ("- | | \u0661\n", 0), ("- \u0660 | 1 | 2\n", 0),
            ("- | | 1\r\n", 0), ("- | | 1\x0b- - | 1 | 1\n", 0), ("-\t|\t|\t1\n", 0), ("houses 1\n", 0),
            ("- | | 1\n\n", 1), ("- | | 1\n- | | 1\n", 1), ("- | | 1\n- | | 2\n", 1), ("- 0 | 1 | 2\n- - | 1 | 2\n", 1),
            ("- | | 1\n- 0 | 1 | 1\n- | | 1\n", 1), ("- | | 1\n- - | 1 | 2\n- - | 1 | 3\n", 2), ("x\ny\nz", 2),
            ("- | | 1\n- - | 1 | 1", 1)))

    def test_texts_bent_at_one_place(self):
        for text in ("- | | 2\n- - | 2 | 1\n- 0 - | 1 3 | 2\n- 0 01 | 2 7 | 3\n", "- - 0 | 1 2 | 3\n- - 0 | 2 1 | 1\n"):
            self.check_bent(bent_texts(text, SIGNS), read_wit, wit_text, plain_texts.wrong_wit_line)

    def test_lines_turned(self):
        lines = plain_texts.wit_text(MANY[::25]).splitlines(keepends=True)
        texts = ["".join(lines[:at] + lines[at:at + 2][::-1] + lines[at + 2:]) for at in range(len(lines))]
        self.check_bent(texts, read_wit, wit_text, plain_texts.wrong_wit_line)

    def test_no_strings(self):
        self.fails_for_each(BadLine, NO_STRINGS, read_wit)
        for value in NO_STRINGS:
            self.same_kind(self.fails(BadLine, read_wit, value).line, 0)

    def test_wits_that_are_wrong(self):
        for at, (wit, index) in enumerate(wrong.WITS):
            with self.subTest(at=at):
                self.same_kind(self.fails(BadWit, wit_text, wit).index, index)


class TestTreeTexts(PaintCase):
    def test_told(self):
        self.same_kind(tree_text(0), "0")
        self.same_kind(read_tree("0"), 0)
        self.same_kind(tree_text(("all", (6, 5, 4, 3, 2, 1, 0))), "all(6,5,4,3,2,1,0)")
        self.same_kind(read_tree("all(6,5,4,3,2,1,0)"), ("all", (6, 5, 4, 3, 2, 1, 0)))
        deepest = "side(6,all(side(5,all(side(4,all(3,2)),1)),0))"
        value = ("side", (6, ("all", (("side", (5, ("all", (("side", (4, ("all", (3, 2)))), 1)))), 0))))
        self.same_kind(tree_text(value), deepest)
        self.same_kind(read_tree(deepest), value)

    def test_each_tree_of_up_to_four_houses(self):
        for value in [value for houses in range(1, 5) for value in plain.every_tree(houses)] + list(DRAWN_TREES):
            self.same_kind(tree_text(value), plain_texts.tree_text(value))
            self.same_kind(read_tree(tree_text(value)), value)

    def test_first_wrong_sign(self):
        rows = (
            ("", 0), (" ", 0), ("7", 0), ("-", 0), ("x", 0), (",", 0), ("(", 0), (")", 0), ("\n", 0), ("S", 0),
            (" 0", 0), ("0 ", 1), ("0\n", 1), ("00", 1), ("0,1", 1), ("0)", 1), ("s", 1), ("a", 1), ("sa", 1),
            ("as", 1), ("al", 2), ("sid", 3), ("side", 4), ("all", 3), ("al(", 2), ("all0", 3), ("sides", 4),
            ("side (0,1)", 4), ("all(", 4), ("side(", 5), ("side()", 5), ("side(,", 5), ("side(7", 5),
            ("side( 0,1)", 5), ("side(0", 6), ("side(0)", 6), ("side(0 ,1)", 6), ("side(01)", 6),
            ("side(0,", 7), ("side(0,)", 7), ("side(0,,1)", 7), ("side(0, 1)", 7), ("side(0,7)", 7),
            ("side(0,1", 8), ("side(0,1(", 8), ("side(0,12)", 8), ("side(0,1,)", 9), ("side(0,1))", 9),
            ("side(0,1)x", 9), ("side(0,1)0", 9), ("side(0,1),", 9), ("side(0,1) ", 9), ("all(0,side(1))", 12),
            ("all(0,side(1,2)", 15), ("all(side(0,1))", 13), ("all(0,al)", 8), ("\u0660", 0),
            ("side(\u00b2,0)", 5), ("side(0,1)\n", 9), ("all(0,side(1,2)),3)", 16), ("0" * 100, 1),
            ("all(" * 25, 100), ("all(" * 24 + "all", 99), ("side(0,1)" + " " * 91, 9))
        for text, place in rows:
            with self.subTest(text=text):
                self.same_kind(self.fails(BadText, read_tree, text).place, place)

    def test_signs_right_but_no_tree(self):
        wrong_houses = (
            "1", "6", "side(0,0)", "side(1,2)", "all(0,2)", "all(0,side(1,1))", "all(0,side(1,3))",
            "side(0,1,2,3,4,5,6,0)", "all(side(0,1),side(0,1))", "all(" * 14 + "0" + ",1)" * 14,
            "all(" + "0," * 47 + "0)")
        self.assertEqual(len(wrong_houses[-1]), 100)
        self.fails_for_each(BadTree, wrong_houses, read_tree)

    def test_a_hundred_signs_and_one_more(self):
        self.fails(BadTree, read_tree, "all(" + "0," * 47 + "0)")
        self.same_kind(self.fails(BadText, read_tree, "all(" + "0," * 47 + "0").place, 99)
        self.same_kind(self.fails(BadText, read_tree, "all(" + "0," * 48).place, 100)
        self.same_kind(self.fails(BadText, read_tree, "all(" + "0," * 47 + "0,").place, 100)
        for text in ("side(" + "0," * 47 + "0)", " " * 101, "x" * 3000, "all(" * 4000, "0" * 101):
            self.same_kind(self.fails(BadText, read_tree, text).place, 100)

    def test_texts_bent_at_one_place(self):
        for text in ("0", "side(0,1)", "all(2,side(0,1))", "side(all(0,side(1,3)),2,all(4,5))"):
            for bent in bent_texts(text, SIGNS):
                place = plain_texts.wrong_tree_sign(bent)
                houses = "".join(sorted(sign for sign in bent if sign in "0123456"))
                with self.subTest(text=bent):
                    if place is not None:
                        self.same_kind(self.fails(BadText, read_tree, bent).place, place)
                    elif "0123456".startswith(houses):
                        self.same_kind(plain_texts.tree_text(read_tree(bent)), bent)
                    else:
                        self.fails(BadTree, read_tree, bent)

    def test_each_beginning(self):
        text = plain_texts.tree_text(DRAWN_TREES[-1])
        for many in range(len(text)):
            self.same_kind(self.fails(BadText, read_tree, text[:many]).place, many)

    def test_no_strings(self):
        for value in NO_STRINGS:
            self.assertIsNone(self.fails(BadText, read_tree, value).place)

    def test_trees_that_are_wrong(self):
        self.fails_for_each(BadTree, wrong.TREES, tree_text)


class TestComingTexts(PaintCase):
    def test_told(self):
        self.same_kind(coming_text(LINE, ()), "")
        self.same_kind(read_coming(LINE, ""), ())
        self.same_kind(coming_text(ONE, (0,)), "0")
        self.same_kind(coming_text(FULL, (6, 5, 4, 3, 2, 1, 0)), "6 5 4 3 2 1 0")
        self.same_kind(read_coming(EMPTY, "6 5 4 3 2 1 0"), (6, 5, 4, 3, 2, 1, 0))

    def test_each_coming_of_small_maps(self):
        for town in SMALL[::5] + [ONE, LINE]:
            for coming in plain.comings(town):
                text = " ".join(map(str, coming))
                self.same_kind(coming_text(town, coming), text)
                self.same_kind(read_coming(town, text), coming)

    def test_texts_that_are_wrong(self):
        texts = NO_STRINGS + (
            " ", "  ", "4", "7", "-1", "-", "x", "00", "01", "0 ", " 0", "0  1", "0,1", "0\t1", "0\n", "0\n1", "0 0",
            "0 1 0", "0 1 2 3 4", "0 1 2 3 3", "0 4", "\u0660", "0 \u00b2", "0 x", "(0, 1)", "()", "None", "0 1 \n",
            "0 " * 3000)
        self.fails_for_each(BadComing, texts, lambda text: read_coming(LINE, text))
        self.fails(BadComing, read_coming, ONE, "1")
        self.fails(BadComing, read_coming, FULL, "7")

    def test_texts_bent_at_one_place(self):
        right = {" ".join(map(str, coming)): coming for coming in plain.comings(LINE)}
        for text in ("", "2", "3 1", "2 0 3 1"):
            for bent in bent_texts(text, SIGNS + "4"):
                with self.subTest(text=bent):
                    if bent in right:
                        self.same_kind(read_coming(LINE, bent), right[bent])
                    else:
                        self.fails(BadComing, read_coming, LINE, bent)

    def test_wrong_arguments(self):
        self.fails_for_each(BadComing, wrong.COMINGS, lambda coming: coming_text(LINE, coming))
        self.fails_for_no_maps((
            lambda town: coming_text(town, ()), lambda town: coming_text(town, None),
            lambda town: read_coming(town, ""), lambda town: read_coming(town, 3)))


if __name__ == "__main__":
    unittest.main()
