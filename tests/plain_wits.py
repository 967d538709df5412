"""Views, wits and painters, tried out in the plainest way, to judge the program's answers by."""

from itertools import combinations, product

from tests import plain


def link_of(town, ahead, house):
    return tuple(at for at, other in enumerate(ahead) if plain.beside(town, other, house))


def follow(town, wit, coming):
    told = ()
    for at, house in enumerate(coming):
        links = tuple(link_of(town, coming[:k], coming[k]) for k in range(at + 1))
        taken = {told[place] for place in links[at]}
        by_view = [paint for view, paint in wit if view == (links, told)]
        told += (by_view[0] if by_view else min(set(range(1, 9)) - taken),)
    return told


def wastes(town, wit):
    """The waste on each coming of a map."""
    needs = {lot: plain.need(town, lot) for lot in plain.lots_of(town)}
    return {
        coming: len(set(follow(town, wit, coming))) - needs[tuple(sorted(coming))]
        for coming in plain.comings(town)}


def fools(wasted):
    """The shortest of the comings on which anything is wasted."""
    found = [coming for coming in wasted if wasted[coming] > 0]
    shortest = min(map(len, found), default=0)
    return [coming for coming in found if len(coming) == shortest]


def tellings(houses):
    """All pairs (view, paint) for so many houses."""
    choices = [[link for size in range(at + 1) for link in combinations(range(at), size)] for at in range(houses)]
    found = []
    for links in product(*choices):
        for row in product(range(1, 8), repeat=houses):
            if all(row[at] != row[place] for at in range(houses) for place in links[at]):
                found.append(((links, row[:-1]), row[-1]))
    return found


# Whatever is bent at one place of a wit about three houses or fewer is none about more of them.
ALL_TELLINGS = [telling for houses in (1, 2, 3) for telling in tellings(houses)]
# By their shows, as True is 1.
SHOWN_TELLINGS = {repr(telling) for telling in ALL_TELLINGS}
VIEWS = sorted({view for view, _ in ALL_TELLINGS})


def first_wrong(values):
    """The index of the first wrong thing in a tuple of pairs about three houses or fewer, None for a wit."""
    for at, value in enumerate(values):
        if repr(value) not in SHOWN_TELLINGS or (at and VIEWS.index(value[0]) <= VIEWS.index(values[at - 1][0])):
            return at
    return None


def painter_never_wastes(town, painted=()):
    """Whether some painter who sees which houses come, and has painted some so, can go on without waste."""
    used = {paint for _, paint in painted}
    if len(used) > plain.need(town, sorted(house for house, _ in painted)):
        return False
    waiting = set(plain.houses_of(town)) - {house for house, _ in painted}
    return all(any(painter_never_wastes(town, painted + ((house, paint),))
                   for paint in free_paints(town, painted, house)) for house in waiting)


def free_paints(town, painted, house):
    """The paints for a house, as far as they are unlike: of those not used yet one will do."""
    taken = {paint for other, paint in painted if plain.beside(town, other, house)}
    newest = max((paint for _, paint in painted), default=0) + 1
    return [paint for paint in range(1, newest + 1) if paint not in taken]
