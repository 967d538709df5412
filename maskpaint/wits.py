"""Wits, who paint by the view of what has come, and the comings that fool them.

A play is what a wit has made of a coming: a triple of the coming, the links of its houses and the
paints that they got. Here `rules` is the dict from the views of a wit to its paints.
"""

from maskpaint.checks import check_coming, check_map, is_coming
from maskpaint.comings import least_paint
from maskpaint.lots import all_lots, fewest_paints, neighbors
from maskpaint.views import check_wit, paints_at

NOBODY_YET = ((), (), ())


def rules_of(wit):
    """The dict from the views of a wit to its paints."""
    return {view: paint for view, paint in wit}


def with_one_more(beside, rules, play, house):
    """The play in which one house more has come."""
    coming, links, told = play
    link = tuple([at for at, ahead in enumerate(coming) if ahead in beside[house]])
    links = links + (link,)
    paint = rules.get((links, told))
    if paint is None:
        paint = least_paint(paints_at(link, told))
    return (coming + (house,), links, told + (paint,))


def play_on(beside, rules, coming):
    """The play on a coming."""
    play = NOBODY_YET
    for house in coming:
        play = with_one_more(beside, rules, play, house)
    return play


def longer_plays(beside, rules, plays):
    """All plays in which one house more has come than in some plays."""
    houses = range(len(beside))
    return [
        with_one_more(beside, rules, play, house) for play in plays for house in houses if house not in play[0]]


def needs_of_lots(town):
    """The dict from each lot of a map to its need."""
    beside = neighbors(town)
    return {lot: fewest_paints(beside, lot) for lot in all_lots(town)}


def waste_in(needs, play):
    """How many more unlike paints a play has than the houses that have come need."""
    coming, _, told = play
    return len(set(told)) - needs[tuple(sorted(coming))]


def follow(town, wit, coming):
    """The tuple of the paints that a wit gives on a coming."""
    check_map(town)
    check_wit(wit)
    check_coming(town, coming)
    return play_on(neighbors(town), rules_of(wit), coming)[2]


def waste_of(town, wit):
    """The greatest number of unlike paints more than the need that a wit gives on any coming."""
    check_map(town)
    check_wit(wit)
    beside, rules, needs = neighbors(town), rules_of(wit), needs_of_lots(town)
    most = 0
    plays = [NOBODY_YET]
    while plays:
        most = max([most] + [waste_in(needs, play) for play in plays])
        plays = longer_plays(beside, rules, plays)
    return most


def fool(town, wit):
    """A shortest coming on which a wit wastes, None if it never does."""
    check_map(town)
    check_wit(wit)
    beside, rules, needs = neighbors(town), rules_of(wit), needs_of_lots(town)
    plays = [NOBODY_YET]
    while plays:
        for play in plays:
            if waste_in(needs, play) > 0:
                return play[0]
        plays = longer_plays(beside, rules, plays)
    return None


def shows_fool(town, wit, value):
    """Whether a value is what fool may return."""
    shortest = fool(town, wit)
    if shortest is None:
        return value is None
    if not is_coming(value, town[0]) or len(value) != len(shortest):
        return False
    return waste_in(needs_of_lots(town), play_on(neighbors(town), rules_of(wit), value)) > 0
