"""A keeper: a painting now, the deeds that led there, and the heirs of the first painting's lines."""

from tiewheel.heirs.deeds import BARE_ALL, FLIP, TURN, painted_by, work_of
from tiewheel.heirs.heirs import heir_rows
from tiewheel.led.along import gone_by, heirs_of_heirs, standing_rows
from tiewheel.lines.lines import line_rows
from tiewheel.matings.matings import need_mating
from tiewheel.matings.strands import is_round
from tiewheel.paintings.paintings import marks_of, need_painting
from tiewheel.products.labels import first_bar, need_labels, product_of, steps_along
from tiewheel.products.perms import cycle_lengths, undone
from tiewheel.webs.errors import Loud, NoBack, NoDeeds, NoFlips, NoLabels, NoNumber
from tiewheel.webs.helper import is_whole
from tiewheel.webs.webs import need_number, need_web, way_table


class Stand:
    """What stands behind a deed: the deed, the painting, the first painting's lines' heirs in it."""

    def __init__(self, deed, painting, rows):
        self.deed = deed
        self.painting = painting
        self.rows = rows


class Keeper:
    """Keeps a painting of a web, and each line of it, through deeds done, taken back and done again."""

    def __init__(self, web, painting, *, labels=None):
        beyond = need_web(web)
        marks = need_painting(web, painting)
        if labels is not None:
            need_labels(web, labels)
        rows = standing_rows(beyond, marks)
        self._web = web
        self._first = painting
        self._labels = labels
        self._start = Stand(None, painting, rows)
        # Kinds of both together, as many of each as at first for ever.
        self._ties = len([ends for _, ends in rows if ends])
        self._rings = len(rows) - self._ties
        # The deeds that stand, and what stands behind each of them.
        self._deeds = []
        self._stands = []
        # What was taken back, the last one taken back at the end.
        self._ready = []
        self._tried = 0

    def _last(self):
        """What stands now."""
        return self._stands[-1] if self._stands else self._start

    def _behind(self, stand, deed):
        """(what stands behind a deed done there, the deed's heirs); refuses what may not be done."""
        beyond = need_web(self._web)
        marks = marks_of(self._web, stand.painting)
        work = None
        if deed != BARE_ALL:
            work = work_of(self._web, beyond, marks, deed)
            if work is None:
                raise NoDeeds("no deed of the painting now")
            if work.loud is not None:
                raise Loud(work.loud)
            if self._labels is not None and first_bar(self._web, beyond, work.rows, self._labels) is not None:
                raise NoLabels("labels that do not cancel by the deed's mating")
        told = heir_rows(self._web, beyond, marks, stand.painting, work)
        rows = heirs_of_heirs(stand.rows, told, gone_by(beyond, marks, told))
        return Stand(deed, painted_by(self._web, stand.painting, work), rows), told

    def _put(self, stands):
        """Lets these stand behind those that do; where there is one, what was ready is so no more."""
        if stands:
            self._ready = []
        for stand in stands:
            self._stands.append(stand)
            self._deeds.append(stand.deed)

    def do(self, deed):
        """Does a deed of the painting now; told are its heirs."""
        stand, told = self._behind(self._last(), deed)
        self._put([stand])
        return told

    def turn(self, mating):
        """Does a turn; told are its heirs."""
        need_mating(self._web, mating)
        return self.do((TURN, mating))

    def flip(self, mating, flips):
        """Does a flip; told are its heirs."""
        need_mating(self._web, mating)
        beyond = need_web(self._web)
        if work_of(self._web, beyond, marks_of(self._web, self.now()), (FLIP, mating, flips)) is None:
            raise NoFlips("no flips of the painting's clusters")
        return self.do((FLIP, mating, flips))

    def bare(self):
        """Repaints all ways; told are the heirs."""
        return self.do(BARE_ALL)

    def do_all(self, deeds):
        """Does a row of deeds whole or not at all; told is how many."""
        self._tried += 1
        if not isinstance(deeds, tuple):
            raise NoDeeds("no row of deeds")
        stands = []
        here = self._last()
        for deed in deeds:
            here, _ = self._behind(here, deed)
            stands.append(here)
        self._put(stands)
        return len(stands)

    def rows_tried(self):
        """How many rows of deeds were handed in so far."""
        return self._tried

    def back(self, *, many=1):
        """Takes so many deeds back, the last one first; told is the painting now."""
        need_many(many)
        if many > len(self._stands):
            raise NoBack(many)
        for _ in range(many):
            self._ready.append(self._stands.pop())
            self._deeds.pop()
        return self.now()

    def again(self, *, many=1):
        """Does so many deeds again, the one taken back last first; told is the painting now."""
        need_many(many)
        if many > len(self._ready):
            raise NoBack(many)
        for _ in range(many):
            stand = self._ready.pop()
            self._stands.append(stand)
            self._deeds.append(stand.deed)
        return self.now()

    def first(self):
        """The first painting."""
        return self._first

    def now(self):
        """The painting now."""
        return self._last().painting

    def labels_kept(self):
        """The labels, None where it has none."""
        return self._labels

    def log(self):
        """The deeds that stand."""
        return tuple(self._deeds)

    def stood(self, count):
        """The painting behind so many of the deeds that stand."""
        need_number(count, len(self._stands) + 1)
        return self._stands[count - 1].painting if count > 0 else self.first()

    def heir(self, number):
        """(number of the line now, where the ends have gone) of a first line."""
        rows = self.heirs_now()
        need_number(number, len(rows))
        return rows[number]

    def first_of(self, number):
        """The number of the first line whose heir a line now is."""
        numbers = [heir for heir, _ in self.heirs_now()]
        need_number(number, len(numbers))
        return numbers.index(number)

    def heirs_now(self):
        """For each first line (number of the line now, where the ends have gone)."""
        return self._last().rows

    def gone_now(self):
        """For each end of the web, rising, (end, where it has gone)."""
        went = gone_by(need_web(self._web), marks_of(self._web, self.first()), self.heirs_now())
        return tuple([(end, went[end]) for end in sorted(went)])

    def carried_now(self, number):
        """The cycles of a first ring's heir; of a tie's the product from where its first end has gone on."""
        if self._labels is None:
            raise NoLabels("a keeper without labels")
        heir, ends = self.heir(number)
        beyond = need_web(self._web)
        row = line_rows(beyond, marks_of(self._web, self.now()))[heir][1]
        product = product_of(self._labels, steps_along(beyond, way_table(self._web), row))
        if is_round(beyond, row):
            return cycle_lengths(product)
        return product if ends[0] == row[0] else undone(product)

    def twin(self):
        """A keeper that is as this one, its rows counted from 0."""
        other = Keeper(self._web, self.first(), labels=self._labels)
        other._stands = list(self._stands)
        other._deeds = list(self._deeds)
        other._ready = list(self._ready)
        return other

    def __len__(self):
        """How many deeds stand."""
        return len(self._deeds)

    def __eq__(self, other):
        """Whether another keeper has the same web, first painting, labels and log."""
        return (
            isinstance(other, Keeper)
            and self._web == other._web
            and self._first == other._first
            and self._labels == other._labels
            and self._deeds == other._deeds
        )

    def __str__(self):
        """Such as "3 deeds, 2 rings, 4 ties"."""
        return f"{len(self._deeds)} deeds, {self._rings} rings, {self._ties} ties"


def need_many(many):
    """Refuses what is no number from 0 on."""
    if not is_whole(many) or many < 0:
        raise NoNumber(many)
