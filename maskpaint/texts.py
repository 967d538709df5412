"""Texts of maps, wits, trees and comings."""

from maskpaint.checks import MOST_HOUSES, are_pairs, check_coming, check_map, is_number
from maskpaint.errors import BadComing, BadLine, BadText
from maskpaint.trees import ALL, SIDE, check_tree
from maskpaint.views import MOST_PAIRS, check_wit, first_wrong

FIGURES = "0123456789"
HOUSES = "houses"
BETWEEN = "-"
NO_LINKS = "-"
BAR = "|"
MOST_SIGNS = 100


def figure_in(word):
    """The number that a word of one figure tells, -1 for any other word."""
    return FIGURES.find(word) if len(word) == 1 else -1


def in_words(numbers):
    """The words of some numbers."""
    return [str(number) for number in numbers]


def numbers_text(numbers):
    """The text of some numbers, a blank between."""
    return " ".join(in_words(numbers))


def text_of_lines(lines):
    """The text of some lines, each ended by a newline."""
    return "".join([line + "\n" for line in lines])


def lines_of(text):
    """The lines of a text, without their newlines."""
    if not isinstance(text, str):
        raise BadLine(0)
    lines = text.split("\n")
    if lines[-1] != "":
        raise BadLine(len(lines) - 1)
    return lines[:-1]


def map_text(town):
    """The text of a map."""
    check_map(town)
    houses, pairs = town
    return text_of_lines([f"{HOUSES} {houses}"] + [f"{one} {BETWEEN} {other}" for one, other in pairs])


def houses_in_line(line):
    """The number of houses that the first line of a map's text tells."""
    word, _, number = line.partition(" ")
    houses = figure_in(number)
    if word != HOUSES or not is_number(houses, 1, MOST_HOUSES):
        raise BadLine(0)
    return houses


def pair_in_line(line):
    """The pair that a further line of a map's text tells, None for a line that has no such form."""
    words = line.split(" ")
    if len(words) != 3 or words[1] != BETWEEN:
        return None
    return (figure_in(words[0]), figure_in(words[2]))


def read_map(text):
    """The map that a text tells."""
    lines = lines_of(text)
    if len(lines) == 0:
        raise BadLine(0)
    houses = houses_in_line(lines[0])
    pairs = ()
    for at in range(1, len(lines)):
        pairs = pairs + (pair_in_line(lines[at]),)
        if not are_pairs(pairs, houses):
            raise BadLine(at)
    return (houses, pairs)


def link_word(link):
    """The word of the places of a house's neighbors ahead."""
    return "".join(in_words(link)) if len(link) > 0 else NO_LINKS


def telling_line(telling):
    """The line, without its newline, of a pair of a view and a paint."""
    (links, told), paint = telling
    return " ".join([link_word(link) for link in links] + [BAR] + in_words(told) + [BAR, str(paint)])


def wit_text(wit):
    """The text of a wit."""
    check_wit(wit)
    return text_of_lines([telling_line(telling) for telling in wit])


def link_in(word):
    """The places that a word tells."""
    return () if word == NO_LINKS else tuple([figure_in(sign) for sign in word])


def telling_in_line(line):
    """The pair of a view and a paint that a line tells, None for a line that has no such form."""
    words = line.split(" ")
    # As many words for links as behind them for paints, besides the two bars.
    many = (len(words) - 2) // 2
    if "" in words or len(words) != 2 * many + 2:
        return None
    if words[many] != BAR or words[2 * many] != BAR:
        return None
    links = tuple([link_in(word) for word in words[:many]])
    told = tuple([figure_in(word) for word in words[many + 1:2 * many]])
    return ((links, told), figure_in(words[-1]))


def read_wit(text):
    """The wit that a text tells."""
    lines = lines_of(text)
    tellings = [telling_in_line(line) for line in lines[:MOST_PAIRS]]
    wrong = first_wrong(tellings)
    if wrong is not None:
        raise BadLine(wrong)
    if len(lines) > MOST_PAIRS:
        raise BadLine(MOST_PAIRS)
    return tuple(tellings)


def part_text(part):
    """The text of a part of a tree."""
    if isinstance(part, int):
        return str(part)
    word, inner_parts = part
    inner_text = ",".join([part_text(inner) for inner in inner_parts])
    return f"{word}({inner_text})"


def tree_text(value):
    """The text of a tree."""
    check_tree(value)
    return part_text(value)


def behind_signs(text, place, signs):
    """The place behind some signs that must stand at a place of a text."""
    for sign in signs:
        # Behind the end of the text there is an empty string, which is no sign.
        if text[place:place + 1] != sign:
            raise BadText(place)
        place += 1
    return place


def word_at(text, place):
    """The word of a tree that must begin at a place of a text, told by its first sign."""
    for word in (SIDE, ALL):
        if text[place:place + 1] == word[0]:
            return word
    raise BadText(place)


def part_at(text, place):
    """The part of a tree whose text begins at a place of a text, and the place behind it."""
    house = figure_in(text[place:place + 1])
    if is_number(house, 0, MOST_HOUSES - 1):
        return house, place + 1
    word = word_at(text, place)
    part, place = part_at(text, behind_signs(text, place, word + "("))
    parts = [part]
    while len(parts) < 2 or text[place:place + 1] != ")":
        part, place = part_at(text, behind_signs(text, place, ","))
        parts.append(part)
    return (word, tuple(parts)), place + 1


def read_tree(text):
    """The tree that a text tells."""
    if not isinstance(text, str):
        raise BadText(None)
    if len(text) > MOST_SIGNS:
        raise BadText(MOST_SIGNS)
    value, place = part_at(text, 0)
    if place < len(text):
        raise BadText(place)
    check_tree(value)
    return value


def coming_text(town, coming):
    """The text of a coming."""
    check_map(town)
    check_coming(town, coming)
    return numbers_text(coming)


def read_coming(town, text):
    """The coming that a text tells."""
    check_map(town)
    if not isinstance(text, str):
        raise BadComing("no text of a coming")
    coming = () if text == "" else tuple([figure_in(word) for word in text.split(" ")])
    check_coming(town, coming)
    return coming
