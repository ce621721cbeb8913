"""Two paintings of a web: what is unlike, and which matings lead from the one to the other."""

from tiewheel.clusters.flips import unlike_flags
from tiewheel.matings.matings import mates_all, need_mating
from tiewheel.matings.strands import is_round, strand_rows
from tiewheel.paintings.paintings import OWN, is_marked, need_painting, painted_marks
from tiewheel.webs.errors import NoMating
from tiewheel.webs.webs import need_web

# The marks of a post all four hands of which are unlike.
ALL_UNLIKE = 15


def unlike_marks(marks, others):
    """For each post the bits of its hands that are painted in just one of both paintings."""
    return [one ^ other for one, other in zip(marks, others)]


def does_lead(unlike, mating):
    """Whether at each post with just two unlike hands these are mates."""
    return all([bits in (0, ALL_UNLIKE) or OWN[bits] == at for bits, at in zip(unlike, mating)])


def does_fit(marks, unlike, mating):
    """Whether it leads and, where all four hands are unlike, no corner has two of one painting."""
    crosses = [bits != ALL_UNLIKE or OWN[mark] != at for mark, bits, at in zip(marks, unlike, mating)]
    return does_lead(unlike, mating) and all(crosses)


def need_leading(web, unlike, mating):
    """Refuses what is no mating, and one that doesn't lead."""
    if not mates_all(web, mating) or not does_lead(unlike, mating):
        raise NoMating("no mating of the web that leads")


def unlike_ways(web, painting, other):
    """The numbers of the ways that are painted in just one of both, rising."""
    need_web(web)
    need_painting(web, painting)
    need_painting(web, other)
    return tuple([number for number, flag in enumerate(unlike_flags(web, painting, other)) if flag])


def leads(web, painting, other, mating):
    """Whether flips by a mating lead from the one painting to the other."""
    need_web(web)
    unlike = unlike_marks(need_painting(web, painting), need_painting(web, other))
    need_mating(web, mating)
    return does_lead(unlike, mating)


def fits(web, painting, other, mating):
    """Whether a mating leads and parts all unlike ways into strands that are clusters by themselves."""
    need_web(web)
    marks = need_painting(web, painting)
    others = need_painting(web, other)
    need_mating(web, mating)
    return does_fit(marks, unlike_marks(marks, others), mating)


def is_amid(web, painting, other, thing):
    """Whether a thing is a painting that is, of each way, painted, or bare, where both are."""
    need_web(web)
    need_painting(web, painting)
    need_painting(web, other)
    if painted_marks(web, thing) is None:
        return False
    unlike = unlike_flags(web, painting, other)
    return all([unlike[way] or not flag for way, flag in enumerate(unlike_flags(web, painting, thing))])


def unlike_ends(web, painting, other, mating):
    """The pairs of unlike ends that are the two of one border, the lesser ahead, rising."""
    beyond = need_web(web)
    unlike = unlike_marks(need_painting(web, painting), need_painting(web, other))
    need_leading(web, unlike, mating)
    rows = [row for row in strand_rows(beyond, mating) if not is_round(beyond, row)]
    return tuple([(row[0], row[-1]) for row in rows if is_marked(unlike, row[0])])
