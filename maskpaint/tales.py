"""Tales of how a wit is fooled."""

from maskpaint.errors import BadFool
from maskpaint.lots import fewest_paints, neighbors
from maskpaint.texts import numbers_text, text_of_lines
from maskpaint.wits import play_on, rules_of, shows_fool

NOBODY = "nobody"
BY_VIEW = "told"
BY_RULE = "least"


def house_line(rules, play, at):
    """The line of the house that came at a place of a play."""
    coming, links, told = play
    ahead = sorted([coming[place] for place in links[at]])
    words = numbers_text(ahead) if len(ahead) > 0 else NOBODY
    by = BY_VIEW if (links[:at + 1], told[:at]) in rules else BY_RULE
    return f"house {coming[at]} beside {words}: {told[at]}, {by}"


def paints_line(beside, play):
    """The line of the unlike paints of a play, and of those needed."""
    coming, _, told = play
    return f"paints {len(set(told))}, needed {fewest_paints(beside, coming)}"


def tale(town, wit, value):
    """The text that tells how a wit is fooled by a coming."""
    # None, too, is what fool may return, but fools nobody.
    if not shows_fool(town, wit, value) or value is None:
        raise BadFool("no shortest coming that fools the wit")
    beside, rules = neighbors(town), rules_of(wit)
    play = play_on(beside, rules, value)
    return text_of_lines([house_line(rules, play, at) for at in range(len(value))] + [paints_line(beside, play)])
