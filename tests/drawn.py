"""Wits drawn once for all, by a seed, and values bent at one place."""

from random import Random

from tests import plain_wits
from tests.wrong import HUGE

ODD_THINGS = (None, True, False, -1, 0, 1, 2, 8, HUGE, "", "1", (), (0,), (1,), [], [1], {}, {0: 1})
# Three hundred and one pairs, one more than a wit may have, each with the least paint that may be told.
MANY = tuple(sorted(dict(plain_wits.ALL_TELLINGS[::-1]).items()))[:301]


def drawn_coming(chance, town):
    return tuple(chance.sample(range(town[0]), chance.randint(1, town[0])))


def drawn_wit(seed, town, plays=12, paints=4):
    """A wit with views that come up on a map, which sometimes paints as the least rule would not."""
    chance = Random(seed)
    told_by_view = {}
    for _ in range(plays):
        coming, links, told = drawn_coming(chance, town), (), ()
        for at, house in enumerate(coming):
            links += (plain_wits.link_of(town, coming[:at], house),)
            taken = [told[place] for place in links[at]]
            free = [paint for paint in range(1, 8) if paint not in taken]
            if chance.random() < 0.4:
                told_by_view.setdefault((links, told), chance.choice(free[:paints]))
            told += (told_by_view.get((links, told), free[0]),)
    return tuple(sorted(told_by_view.items()))[:300]


def every_small_wit():
    """All wits about one house or two that tell paints up to three, and views that come up."""
    found = []
    for first in (None, 1, 2, 3):
        ahead = first or 1
        for apart in (None, 1, 2, 3):
            for near in (None, 1, 2, 3):
                if near != ahead:
                    found.append(small_wit(first, ahead, apart, near))
    return found


def small_wit(first, ahead, apart, near):
    """The wit that tells these paints for one house, two apart and two neighbors, None for none."""
    rows = (((((),), ()), first), ((((), ()), (ahead,)), apart), ((((), (0,)), (ahead,)), near))
    return tuple(row for row in rows if row[1] is not None)


def bent(value):
    """All values that are a value bent at one place: another thing there, one left out, two, or turned."""
    yield from ODD_THINGS
    if isinstance(value, tuple):
        yield list(value)
        for at, inner in enumerate(value):
            ahead, behind = value[:at], value[at + 1:]
            yield ahead + behind
            yield ahead + (inner, inner) + behind
            yield ahead[:-1] + (inner,) + ahead[-1:] + behind
            for other in bent(inner):
                yield ahead + (other,) + behind


def bent_texts(text, signs):
    """All texts that are a text with one sign left out, put in, or replaced."""
    for at in range(len(text) + 1):
        yield text[:at] + text[at + 1:]
        for sign in signs:
            yield text[:at] + sign + text[at:]
            yield text[:at] + sign + text[at + 1:]
