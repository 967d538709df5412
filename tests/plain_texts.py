"""The forms of texts, listed or reduced in the plainest way, to judge the program's answers by."""

import re
from itertools import combinations

from tests import plain_wits

WORD = "(?:side|all)"
WHOLE_PAIR = re.compile(WORD + r"\([0-6](?:,[0-6])+\)")
BEGUN = re.compile(rf"(?:{WORD}\((?:[0-6],)*)*(?:[0-6]|s|si|sid|side|a|al|all|)")


def map_text(town):
    return f"houses {town[0]}\n" + "".join(f"{one} - {other}\n" for one, other in town[1])


def telling_line(telling):
    (links, told), paint = telling
    houses = ["".join(map(str, link)) or "-" for link in links]
    return " ".join(houses + ["|", *map(str, told), "|", str(paint)])


def wit_text(wit):
    return "".join(telling_line(telling) + "\n" for telling in wit)


def tree_text(part):
    return f"{part[0]}({','.join(map(tree_text, part[1]))})" if isinstance(part, tuple) else str(part)


# What a line may be, for each map's number of houses and for wits about three houses or fewer.
HOUSES_LINES = {f"houses {houses}": houses for houses in range(1, 8)}
PAIR_LINES = {houses: [f"{a} - {b}" for a, b in combinations(range(houses), 2)] for houses in range(1, 8)}
TELLINGS_BY_LINE = {telling_line(telling): telling for telling in plain_wits.ALL_TELLINGS}


def last_if_not_ended(text):
    """The number of the last line if no newline ends it, otherwise None."""
    return None if text.endswith("\n") else text.count("\n")


def wrong_map_line(text):
    """The number of the first wrong line of a map's text, None if all are right."""
    if text == "" or last_if_not_ended(text) is not None:
        return text.count("\n")
    first, *lines = text.split("\n")[:-1]
    if first not in HOUSES_LINES:
        return 0
    allowed = PAIR_LINES[HOUSES_LINES[first]]
    for at, line in enumerate(lines):
        if line not in allowed:
            return at + 1
        allowed = allowed[allowed.index(line) + 1:]
    return None


def wrong_wit_line(text):
    """The number of the first wrong line of a text about three houses or fewer, None if all are right."""
    if text != "" and last_if_not_ended(text) is not None:
        return text.count("\n")
    ahead = -1
    for at, line in enumerate(text.split("\n")[:-1]):
        place = plain_wits.VIEWS.index(TELLINGS_BY_LINE[line][0]) if line in TELLINGS_BY_LINE else -1
        if place <= ahead or at == 300:
            return at
        ahead = place
    return None


def reduced(text):
    """A text in which each whole pair without pairs in it is a house, and so on."""
    shorter = WHOLE_PAIR.sub("0", text)
    return text if shorter == text else reduced(shorter)


def wrong_tree_sign(text):
    """The place of the first wrong sign of a tree's text, None if all is right but perhaps its houses."""
    for many in range(1, len(text) + 1):
        if not BEGUN.fullmatch(reduced(text[:many])):
            return many - 1
    return None if reduced(text) in tuple("0123456") else len(text)
