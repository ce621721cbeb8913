"""All that the package refuses with."""


class WebError(ValueError):
    """Something that was handed in is not what it has to be."""


class NoWeb(WebError):
    """What is no web."""


class NoMating(WebError):
    """What is no mating of the web."""


class NoPainting(WebError):
    """What is no painting of the web, or none that is meant."""


class NoEnds(WebError):
    """What are no ends of the web, or no couples or pairs of them."""


class NoFlips(WebError):
    """What are no flips of clusters."""


class NoLabels(WebError):
    """What are no labels, or none that are meant."""


class NoDeeds(WebError):
    """What is no deed, or no row of deeds, of the painting."""


class NoWheel(WebError):
    """Matings by which the web is no wheel."""


class NoJoin(WebError):
    """What can't be joined, sewn or opened."""


class NoShape(WebError):
    """What is no shape."""


class NoLine(WebError):
    """What is no kind of lines, or no line for a desk."""


class TooFar(WebError):
    """What lies more turns away than may be tried."""


class NoText(WebError):
    """What is not written as told."""

    def __init__(self, at):
        self.at = at


class NoHand(IndexError):
    """What is no hand of the web."""

    def __init__(self, hand):
        self.hand = hand


class NoNumber(LookupError):
    """What is no number of the things that are asked for."""

    def __init__(self, number):
        self.number = number


class TooWide(OverflowError):
    """More things than may come at once."""

    def __init__(self, most):
        self.most = most


class Loud(RuntimeError):
    """A flip of a loud cluster where lines are to be kept."""

    def __init__(self, cluster):
        self.cluster = cluster


class NoBack(KeyError):
    """More deeds than stand, or than are ready."""

    def __init__(self, many):
        self.many = many
