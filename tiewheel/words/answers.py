"""What a desk answers to each word.

Each answer is asked with the web, the keeper (or None) and the list of words behind the word itself,
and tells (text, web, keeper): these are what the desk has behind it. Where it refuses,
nothing has been changed.
"""

from tiewheel.clusters.clusters import clusters
from tiewheel.joins.joins import opened, opened_labels, opened_painting, sewn, sewn_labels, sewn_painting
from tiewheel.keeper.keeper import Keeper
from tiewheel.lines.lines import BARE, BOTH, PAINTED, lines_of, rings_of
from tiewheel.lines.ties import ties_of
from tiewheel.two.bridge import bridge
from tiewheel.webs.errors import NoText
from tiewheel.webs.webs import ends_of
from tiewheel.wheels.far import ties_behind
from tiewheel.wheels.wheels import barred_by
from tiewheel.words.texts import (
    NONE, number_in, numbers_in, numbers_text, painting_text, pairs_in, pairs_text, read_deeds, read_labels,
    read_mating, read_painting, read_web, row_text, told_deed, told_deeds, told_line,
)


def phrase(words):
    """Words with one blank between."""
    return " ".join(words)


def listed(texts):
    """Texts one behind another, with a line between; NONE of none."""
    return " | ".join(texts) if texts else NONE


def read_number(word):
    """The number that a word is; refuses what is none."""
    number = number_in(word)
    if number is None:
        raise NoText(0)
    return number


def read_numbers(words):
    """The row of numbers that words are; refuses what is none."""
    numbers = numbers_in(phrase(words))
    if numbers is None:
        raise NoText(0)
    return numbers


def read_pairs(words):
    """The row of pairs that words are; refuses what is none."""
    pairs = pairs_in(phrase(words))
    if pairs is None:
        raise NoText(0)
    return pairs


def told_web(web):
    """How many posts, ways and ends a web has."""
    return f"{web[0]} posts, {len(web[1])} ways, {len(ends_of(web))} ends"


def answer_web(web, keeper, words):
    """`web WEB`."""
    found = read_web(phrase(words))
    return told_web(found), found, None


def answer_sew(web, keeper, words):
    """`sew PAIRS`."""
    pairs = read_pairs(words)
    found = sewn(web, pairs)
    if keeper is None:
        return told_web(found), found, None
    labels = keeper.labels_kept()
    if labels is not None:
        labels = sewn_labels(web, labels, pairs)
    return told_web(found), found, Keeper(found, sewn_painting(web, keeper.now(), pairs), labels=labels)


def answer_open(web, keeper, words):
    """`open NUMBERS`."""
    ways = read_numbers(words)
    found = opened(web, ways)
    if keeper is None:
        return told_web(found), found, None
    labels = keeper.labels_kept()
    if labels is not None:
        labels = opened_labels(web, labels, ways)
    return told_web(found), found, Keeper(found, opened_painting(web, keeper.now(), ways), labels=labels)


def answer_paint(web, keeper, words):
    """`paint PAINTING`."""
    found = Keeper(web, read_painting(web, phrase(words)))
    return str(found), web, found


def answer_label(web, keeper, words):
    """`label LABELS`."""
    found = Keeper(web, keeper.now(), labels=read_labels(web, phrase(words)))
    return str(found), web, found


def answer_turn(web, keeper, words):
    """`turn MATING`."""
    keeper.turn(read_mating(web, words[0]))
    return str(keeper), web, keeper


def answer_flip(web, keeper, words):
    """`flip MATING NUMBERS`."""
    mating = read_mating(web, words[0])
    keeper.flip(mating, read_numbers(words[1:]))
    return str(keeper), web, keeper


def answer_bare(web, keeper, words):
    """`bare`."""
    keeper.bare()
    return str(keeper), web, keeper


def answer_all(web, keeper, words):
    """`all DEEDS`."""
    keeper.do_all(read_deeds(web, keeper.now(), phrase(words)))
    return str(keeper), web, keeper


def answer_back(web, keeper, words):
    """`back N`."""
    keeper.back(many=read_number(words[0]))
    return str(keeper), web, keeper


def answer_again(web, keeper, words):
    """`again N`."""
    keeper.again(many=read_number(words[0]))
    return str(keeper), web, keeper


def answer_now(web, keeper, words):
    """`now`."""
    return painting_text(web, keeper.now()), web, keeper


def answer_log(web, keeper, words):
    """`log`."""
    return told_deeds(keeper.log()), web, keeper


def answer_lines(web, keeper, words):
    """`lines`."""
    return listed([told_line(line) for line in lines_of(web, keeper.now())]), web, keeper


def answer_heir(web, keeper, words):
    """`heir N`."""
    number, ends = keeper.heir(read_number(words[0]))
    return numbers_text((number, *ends)), web, keeper


def answer_product(web, keeper, words):
    """`product N`."""
    number = read_number(words[0])
    told = keeper.carried_now(number)
    is_tie = len(keeper.heir(number)[1]) > 0
    return row_text(told) if is_tie else numbers_text(told), web, keeper


def answer_ties(web, keeper, words):
    """`ties KIND`."""
    if words[0] not in (PAINTED, BARE, BOTH):
        raise NoText(0)
    pairs = ties_of(web, keeper.now(), kind=words[0])
    return pairs_text(pairs) if pairs else NONE, web, keeper


def answer_rings(web, keeper, words):
    """`rings`."""
    painting = keeper.now()
    return numbers_text([len(rings_of(web, painting, kind=kind)) for kind in (PAINTED, BARE)]), web, keeper


def answer_clusters(web, keeper, words):
    """`clusters MATING`."""
    lots = clusters(web, keeper.now(), read_mating(web, words[0]))
    return listed([f"{word} {numbers_text(numbers)}" for word, numbers in lots]), web, keeper


def answer_over(web, keeper, words):
    """`over PAINTING`."""
    other = read_painting(web, phrase(words))
    return told_deed(bridge(web, keeper.now(), other)), web, keeper


def answer_wheel(web, keeper, words):
    """`wheel MATING MATING`."""
    first = read_mating(web, words[0])
    bar = barred_by(web, first, read_mating(web, words[1]))
    return "wheel" if bar is None else f"barred {numbers_text(bar)}", web, keeper


def answer_far(web, keeper, words):
    """`far MATING MATING N`."""
    first = read_mating(web, words[0])
    second = read_mating(web, words[1])
    ties = ties_behind(web, first, second, keeper.now(), read_number(words[2]))
    return listed([f"{kind} {one}-{other}" for kind, one, other in ties]), web, keeper


# What each word is answered by; which of them want one word or more behind those that WORDS tells;
# and which go without a keeper.
ANSWERS = {
    "web": answer_web, "sew": answer_sew, "open": answer_open, "paint": answer_paint, "label": answer_label,
    "turn": answer_turn, "flip": answer_flip, "bare": answer_bare, "all": answer_all, "back": answer_back,
    "again": answer_again, "now": answer_now, "log": answer_log, "lines": answer_lines, "heir": answer_heir,
    "product": answer_product, "ties": answer_ties, "rings": answer_rings, "clusters": answer_clusters,
    "over": answer_over, "wheel": answer_wheel, "far": answer_far,
}
WORDS = {
    "turn": 1, "flip": 1, "back": 1, "again": 1, "heir": 1, "product": 1, "ties": 1, "clusters": 1, "wheel": 2,
    "far": 3,
}
MANY_WORDS = ("web", "sew", "open", "paint", "label", "flip", "all", "over")
WITHOUT_KEEPER = ("web", "sew", "open", "paint", "wheel")


def is_line(word, many):
    """Whether there is such a word, and so many behind it are as many as it wants."""
    if word not in ANSWERS:
        return False
    wanted = WORDS.get(word, 0)
    return many > wanted if word in MANY_WORDS else many == wanted


def needs_web(word):
    """Whether a word is answered just where there is a web."""
    return word != "web"


def needs_keeper(word):
    """Whether a word is answered just where there is a keeper."""
    return word not in WITHOUT_KEEPER


def answered(word, web, keeper, words):
    """(text, web, keeper) that come of a word and those behind it."""
    action = ANSWERS[word]
    return action(web, keeper, words)
