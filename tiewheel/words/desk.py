"""A desk that is told lines and answers by texts."""

from tiewheel.webs.errors import NoLine
from tiewheel.words.answers import answered, is_line, needs_keeper, needs_web


class Desk:
    """Has a web and a keeper, or none, and does and tells what lines ask for."""

    def __init__(self):
        self._web = None
        self._keeper = None
        # Of each line told whether it was refused.
        self._refused = []

    def say(self, line):
        """Answers a line."""
        # Refused it is until it has been answered.
        self._refused.append(True)
        text, web, keeper = self._answer(line)
        self._web = web
        self._keeper = keeper
        self._refused[-1] = False
        return text

    def _answer(self, line):
        """(text, web, keeper) that come of a line."""
        if not isinstance(line, str):
            raise NoLine("no text")
        words = line.split(" ")
        word = words[0]
        if not is_line(word, len(words) - 1):
            raise NoLine("no word of a desk with as many words as it wants")
        if self._web is None and needs_web(word):
            raise NoLine("no web yet")
        if self._keeper is None and needs_keeper(word):
            raise NoLine("no keeper yet")
        return answered(word, self._web, self._keeper, words[1:])

    def say_all(self, lines):
        """Answers lines up to the first that is refused."""
        if not isinstance(lines, tuple):
            raise NoLine("no row of lines")
        return tuple([self.say(line) for line in lines])

    def web_now(self):
        """The web, or None."""
        return self._web

    def keeper_now(self):
        """A twin of the keeper, or None."""
        return None if self._keeper is None else self._keeper.twin()

    def counts(self):
        """(how many lines were told, how many of these were refused)."""
        return (len(self._refused), len([True for refused in self._refused if refused]))

    def __len__(self):
        """How many lines were told."""
        return len(self._refused)

    def __eq__(self, other):
        """Whether another desk has the same web and an equal keeper, or none."""
        return isinstance(other, Desk) and self._web == other._web and self._keeper == other._keeper
