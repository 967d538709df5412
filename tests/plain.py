"""The words of the document, tried out in the plainest way, to judge the program's answers by."""

from functools import cache
from itertools import combinations, permutations, product


def beside(town, one, other):
    return (one, other) in town[1] or (other, one) in town[1]


def houses_of(town):
    return range(town[0])


def near(town, house):
    return tuple(other for other in houses_of(town) if beside(town, house, other))


def lots_of(town):
    return [lot for size in range(town[0] + 1) for lot in combinations(houses_of(town), size)]


def paintings(town, lot, paints):
    """How many of all rows of paints give no two neighbors of a lot one paint."""
    places = [(a, b) for a, b in combinations(range(len(lot)), 2) if beside(town, lot[a], lot[b])]
    rows = product(range(paints), repeat=len(lot))
    return sum(all(row[a] != row[b] for a, b in places) for row in rows)


def need(town, lot):
    paints = 0
    while not paintings(town, lot, paints):
        paints += 1
    return paints


def count_paintings(houses, pairs, paints):
    """Two neighbors are painted unlike in all ways but those in which they are painted alike."""
    if not pairs:
        return paints ** houses
    (kept, gone), rest = pairs[0], pairs[1:]
    merged = {tuple(sorted(kept if house == gone else house for house in pair)) for pair in rest}
    apart = count_paintings(houses, rest, paints)
    return apart - count_paintings(houses - 1, tuple(sorted(merged)), paints)


def most_mutual(town):
    lots = [lot for lot in lots_of(town) if all(beside(town, a, b) for a, b in combinations(lot, 2))]
    return tuple(sorted(lot for lot in lots if len(lot) == max(map(len, lots))))


def is_bare_row(town, row):
    linked = [(a, b) for a, b in combinations(range(4), 2) if beside(town, row[a], row[b])]
    return linked == [(0, 1), (1, 2), (2, 3)] and row[0] < row[3]


def bare_rows(town):
    return tuple(row for row in permutations(houses_of(town), 4) if is_bare_row(town, row))


def left_out(town):
    rows = bare_rows(town)
    lots = [lot for lot in lots_of(town) if all(set(row) & set(lot) for row in rows)]
    return tuple(sorted(lot for lot in lots if len(lot) == min(map(len, lots))))


def path_to(house, part):
    """The words and places on the way to a house of a tree, None if it is not in it."""
    if part == house:
        return []
    for at, inner in enumerate(part[1] if isinstance(part, tuple) else ()):
        path = path_to(house, inner)
        if path is not None:
            return [(part[0], at)] + path
    return None


def houses_in(part):
    return sum((houses_in(inner) for inner in part[1]), []) if isinstance(part, tuple) else [part]


def word_between(part, one, other):
    """The word of the pair two unlike parts of which have two houses of a tree."""
    for here, there in zip(path_to(one, part), path_to(other, part)):
        if here != there:
            return here[0]


def map_of(part):
    houses = len(houses_in(part))
    pairs = combinations(range(houses), 2)
    return houses, tuple(pair for pair in pairs if word_between(part, *pair) == "all")


def trees_over(houses):
    """All trees over a tuple of houses, in this sequence."""
    if len(houses) == 1:
        return [houses[0]]
    found = []
    for many in range(1, len(houses)):
        for cuts in combinations(range(1, len(houses)), many):
            ends = (0,) + cuts + (len(houses),)
            choices = [trees_over(houses[ends[at]:ends[at + 1]]) for at in range(many + 1)]
            found += [(word, parts) for parts in product(*choices) for word in ("side", "all")]
    return found


def every_tree(houses):
    return [one for row in permutations(range(houses)) for one in trees_over(row)]


def paints(town, coming):
    told = []
    for at, house in enumerate(coming):
        taken = [told[ahead] for ahead in range(at) if beside(town, coming[ahead], house)]
        told.append(next(paint for paint in range(1, 9) if paint not in taken))
    return tuple(told)


def comings(town):
    return comings_of(town[0])


@cache
def comings_of(houses):
    return tuple(row for many in range(houses + 1) for row in permutations(range(houses), many))


def is_heap(town, lot):
    return len(lot) > 0 and not any(beside(town, a, b) for a, b in combinations(lot, 2))


def stands_behind(town, heap, ahead):
    """Whether each house of a heap has a neighbor in a heap ahead, and is none of its houses."""
    return all(house not in ahead and any(beside(town, house, one) for one in ahead) for house in heap)


def are_worst_lots(town, row):
    """Whether lots are as the document says of those of worst_lots, however many they are."""
    pairs = combinations(row, 2)
    return all(is_heap(town, lot) for lot in row) and all(stands_behind(town, b, a) for a, b in pairs)


def rows_of_heaps(town):
    """All tuples of heaps that are as the document says of those of worst_lots, however many."""
    heaps = [lot for lot in lots_of(town) if is_heap(town, lot)]
    rows, longer = [], [()]
    while longer:
        rows += longer
        grown = [(row, heap) for row in longer for heap in heaps]
        longer = [row + (heap,) for row, heap in grown if all(stands_behind(town, heap, a) for a in row)]
    return rows
