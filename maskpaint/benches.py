"""A bench, on which houses come one by one and are painted."""

from maskpaint.checks import LAST_PAINT, check_house, check_map, check_number
from maskpaint.comings import least_paint, paints_wasted, rule_paints
from maskpaint.errors import BadStep
from maskpaint.lots import neighbors


class Bench:
    """The houses of a map that have come, and their paints."""

    def __init__(self, town):
        check_map(town)
        self._town = town
        self._beside = neighbors(town)
        self._coming = ()
        self._paints = ()

    def come(self, house):
        """Let a house come, and return its paint by the least rule."""
        check_house(self._town, house)
        self._check_waits(house)
        paint = least_paint(self._paints_beside(house))
        self._seat(house, paint)
        return paint

    def paint(self, house, paint):
        """Let a house come with a told paint."""
        check_house(self._town, house)
        check_number(paint, 1, LAST_PAINT)
        self._check_waits(house)
        if paint in self._paints_beside(house):
            raise BadStep("a neighbor has this paint")
        self._seat(house, paint)

    def back(self):
        """Let the last house go."""
        if len(self._coming) == 0:
            raise BadStep("no house has come")
        self._coming = self._coming[:-1]
        self._paints = self._paints[:-1]

    def by_rule(self):
        """The tuple of the paints that the houses that have come get by the least rule."""
        return rule_paints(self._beside, self._coming)

    @property
    def coming(self):
        """The tuple of the houses that have come."""
        return self._coming

    @property
    def paints(self):
        """The tuple of the paints of the houses that have come."""
        return self._paints

    @property
    def waste(self):
        """How many more unlike paints these are than the houses that have come need."""
        return paints_wasted(self._beside, self._coming, self._paints)

    def _check_waits(self, house):
        """Raise BadStep if a house has come."""
        if house in self._coming:
            raise BadStep("this house has come")

    def _paints_beside(self, house):
        """The list of the paints of the neighbors of a house that have come."""
        beside = self._beside[house]
        return [self._paints[at] for at, ahead in enumerate(self._coming) if ahead in beside]

    def _seat(self, house, paint):
        """Put a house and its paint behind those that have come."""
        self._coming = self._coming + (house,)
        self._paints = self._paints + (paint,)
