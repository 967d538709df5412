"""Twins, rows of twins and tales, tried out in the plainest way, to judge the program's answers by."""

from itertools import combinations, permutations

from tests import plain, plain_wits


def are_twins(town, one, other, lot):
    others = [house for house in lot if house not in (one, other)]
    return all(plain.beside(town, one, house) == plain.beside(town, other, house) for house in others)


def twins(town):
    lot = plain.houses_of(town)
    return tuple(
        (one, other, "near" if plain.beside(town, one, other) else "apart")
        for one, other in combinations(lot, 2) if are_twins(town, one, other, lot))


def is_twin_row(town, row):
    """Whether each house of a row but the first is a twin of one ahead, on the map of those so far."""
    return all(any(are_twins(town, row[at], one, row[:at]) for one in row[:at]) for at in range(1, len(row)))


def twin_rows(town):
    return [row for row in permutations(plain.houses_of(town)) if is_twin_row(town, row)]


def with_house(town, lot):
    return town[0] + 1, tuple(sorted(town[1] + tuple((house, town[0]) for house in lot)))


def may_come(town):
    lots = [lot for lot in plain.lots_of(town) if not plain.bare_rows(with_house(town, lot))]
    return tuple(sorted(lots))


def house_line(town, wit, coming, at):
    told, house = plain_wits.follow(town, wit, coming), coming[at]
    ahead = sorted(other for other in coming[:at] if plain.beside(town, house, other))
    links = tuple(plain_wits.link_of(town, coming[:k], coming[k]) for k in range(at + 1))
    by = "told" if (links, told[:at]) in dict(wit) else "least"
    return f"house {house} beside {' '.join(map(str, ahead)) or 'nobody'}: {told[at]}, {by}\n"


def tale(town, wit, coming):
    used = len(set(plain_wits.follow(town, wit, coming)))
    last = f"paints {used}, needed {plain.need(town, sorted(coming))}\n"
    return "".join(house_line(town, wit, coming, at) for at in range(len(coming))) + last
