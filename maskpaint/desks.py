"""A desk, at which lines of text lead a bench."""

from maskpaint.benches import Bench
from maskpaint.errors import BadLine
from maskpaint.texts import figure_in, numbers_text

DONE = "done"
# How many numbers stand behind the word of each line that there is.
NUMBERS_BEHIND = {"come": 1, "paint": 2, "back": 0, "coming": 0, "paints": 0, "rule": 0, "waste": 0}


def word_and_numbers(line):
    """The word of a line and the list of the numbers behind it."""
    if not isinstance(line, str):
        raise BadLine(0)
    words = line.split(" ")
    numbers = [figure_in(word) for word in words[1:]]
    if NUMBERS_BEHIND.get(words[0]) != len(numbers) or -1 in numbers:
        raise BadLine(0)
    return words[0], numbers


class Desk:
    """A bench led by lines of text."""

    def __init__(self, town):
        self._bench = Bench(town)

    def do(self, line):
        """Do what a line says, and return the answer as a text."""
        word, numbers = word_and_numbers(line)
        if word == "come":
            return str(self._bench.come(numbers[0]))
        if word == "paint":
            self._bench.paint(numbers[0], numbers[1])
            return DONE
        if word == "back":
            self._bench.back()
            return DONE
        return self._told(word)

    def _told(self, word):
        """What the bench shows by a word that changes nothing."""
        if word == "coming":
            return numbers_text(self._bench.coming)
        if word == "paints":
            return numbers_text(self._bench.paints)
        if word == "rule":
            return numbers_text(self._bench.by_rule())
        return str(self._bench.waste)
