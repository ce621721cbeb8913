"""Texts of webs, paintings, matings, labels, lines and deeds: written, and read where just so written."""

from tiewheel.heirs.deeds import BARE_ALL, FLIP, TURN, painted_by, work_of
from tiewheel.led.along import MOST_ROW, are_deeds
from tiewheel.lines.lines import numbered_line
from tiewheel.matings.matings import mates_all, need_mating
from tiewheel.paintings.paintings import marks_of, need_painting, painted_marks
from tiewheel.products.labels import labels_all, need_labels
from tiewheel.webs.errors import NoDeeds, NoText
from tiewheel.webs.webs import HANDS, MOST_POSTS, need_web

MOST_FIGURES = 40
NOTHING = "-"
NONE = "none"


def words_text(words):
    """Words with one blank between; NOTHING where there are none."""
    return " ".join(words) if words else NOTHING


def numbers_text(numbers):
    """Numbers as words."""
    return words_text([str(number) for number in numbers])


def row_text(numbers):
    """Numbers of one figure each as one word."""
    return "".join([str(number) for number in numbers]) if numbers else NOTHING


def pairs_text(pairs):
    """Pairs of ends as a word each."""
    return words_text([f"{one}-{other}" for one, other in pairs])


def number_in(word):
    """The number that a word is, None of what is none as it is written."""
    if not word.isdecimal() or len(word) > MOST_FIGURES:
        return None
    number = int(word)
    return number if str(number) == word else None


def numbers_in(text):
    """The row of numbers that a text is, in whatever order; None of what is none."""
    if text == NOTHING:
        return ()
    numbers = [number_in(word) for word in text.split(" ")]
    return None if None in numbers else tuple(numbers)


def pair_in(word):
    """The pair of numbers that a word is, in whatever order; None of what is none."""
    one, dash, other = word.partition("-")
    pair = (number_in(one), number_in(other))
    return None if dash == "" or None in pair else pair


def pairs_in(text):
    """The row of pairs that a text is, in whatever order; None of what is none."""
    if text == NOTHING:
        return ()
    pairs = [pair_in(word) for word in text.split(" ")]
    return None if None in pairs else tuple(pairs)


def row_in(word):
    """The row of numbers of one figure each that a word is; None of what is none."""
    if word == NOTHING:
        return ()
    figures = [number_in(figure) for figure in word]
    return None if None in figures or not figures else tuple(figures)


def need_text(thing):
    """Refuses what is no text, with 0."""
    if not isinstance(thing, str):
        raise NoText(0)


def web_text(web):
    """A web as text."""
    need_web(web)
    words = [f"{way[0]}-{way[1]}" if len(way) == 2 else str(way[0]) for way in web[1]]
    return " ".join([str(web[0]), ":"] + words)


def way_in(word, met, least):
    """The way that a word is, which begins with the least hand not met; None of what is none."""
    if "-" not in word:
        return (least,) if number_in(word) == least else None
    pair = pair_in(word)
    if pair is None or pair[0] != least or not least < pair[1] < len(met) or met[pair[1]]:
        return None
    return pair


def read_web(text):
    """The web that a text is."""
    need_text(text)
    words = text.split(" ")
    posts = number_in(words[0])
    if posts is None or posts > MOST_POSTS:
        raise NoText(0)
    if len(words) == 1 or words[1] != ":":
        raise NoText(1)
    met = [False] * (HANDS * posts)
    ways = []
    least = 0
    for at, word in enumerate(words[2:]):
        way = way_in(word, met, least) if least < len(met) else None
        if way is None:
            raise NoText(at + 2)
        ways.append(way)
        for hand in way:
            met[hand] = True
        while least < len(met) and met[least]:
            least += 1
    if least < len(met):
        raise NoText(len(words))
    return (posts, tuple(ways))


def painting_text(web, painting):
    """A painting as text."""
    need_web(web)
    need_painting(web, painting)
    return numbers_text(painting)


def read_painting(web, text):
    """The painting that a text is."""
    need_web(web)
    need_text(text)
    painting = numbers_in(text)
    if painting is None or painted_marks(web, painting) is None:
        raise NoText(0)
    return painting


def mating_text(web, mating):
    """A mating as text."""
    need_web(web)
    need_mating(web, mating)
    return row_text(mating)


def mating_in(web, word):
    """The mating that a word is; None of what is none."""
    mating = row_in(word)
    return mating if mating is not None and mates_all(web, mating) else None


def read_mating(web, text):
    """The mating that a text is."""
    need_web(web)
    need_text(text)
    mating = mating_in(web, text)
    if mating is None:
        raise NoText(0)
    return mating


def labels_text(web, labels):
    """Labels as text."""
    need_web(web)
    need_labels(web, labels)
    return words_text([row_text(label) for label in labels])


def read_labels(web, text):
    """The labels that a text is."""
    need_web(web)
    need_text(text)
    labels = () if text == NOTHING else tuple([row_in(word) for word in text.split(" ")])
    if not labels_all(web, labels):
        raise NoText(0)
    return labels


def line_text(web, painting, number):
    """The line so numbered as text."""
    beyond = need_web(web)
    return told_line(numbered_line(beyond, need_painting(web, painting), number))


def told_line(line):
    """A line as text."""
    kind, row = line
    return f"{kind} {numbers_text(row)}"


def told_deed(deed):
    """A deed as text."""
    if deed == BARE_ALL:
        return deed[0]
    if deed[0] == TURN:
        return f"{TURN} {row_text(deed[1])}"
    return f"{FLIP} {row_text(deed[1])} {numbers_text(deed[2])}"


def told_deeds(deeds):
    """A row of deeds as text, however many."""
    return " ; ".join([told_deed(deed) for deed in deeds]) if deeds else NONE


def deeds_text(web, painting, deeds):
    """A row of deeds of a painting as text."""
    if not are_deeds(web, painting, deeds):
        raise NoDeeds("no row of deeds of the painting")
    return told_deeds(deeds)


def deed_in(text):
    """What is told by a text that may be a deed; None of what surely is none."""
    words = text.split(" ")
    if words[0] == TURN and len(words) == 2:
        return (TURN, row_in(words[1]))
    if words[0] == FLIP and len(words) > 2:
        return (FLIP, row_in(words[1]), numbers_in(" ".join(words[2:])))
    return BARE_ALL if text == BARE_ALL[0] else None


def read_deeds(web, painting, text):
    """The row of deeds of a painting that a text is."""
    beyond = need_web(web)
    need_painting(web, painting)
    need_text(text)
    if text == NONE:
        return ()
    parts = text.split(" ; ")
    if len(parts) > MOST_ROW:
        raise NoText(0)
    deeds = []
    here = painting
    for at, part in enumerate(parts):
        deed = deed_in(part)
        work = None
        if deed != BARE_ALL:
            work = work_of(web, beyond, marks_of(web, here), deed)
            if work is None:
                raise NoText(at)
        deeds.append(deed)
        here = painted_by(web, here, work)
    return tuple(deeds)
