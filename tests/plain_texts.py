"""Texts written plainly, for tests of texts and of the desk; nothing here calls the package."""

from plain_deeds import plain_behind, plain_is_deed


def words(numbers):
    return " ".join(str(number) for number in numbers) or "-"


def figures(numbers):
    return "".join(str(number) for number in numbers) or "-"


def plain_web_text(web):
    return " ".join([str(web[0]), ":"] + ["-".join(str(hand) for hand in way) for way in web[1]])


def plain_labels_text(labels):
    return " ".join(figures(label) for label in labels) or "-"


def plain_pairs_text(pairs):
    return " ".join(f"{one}-{other}" for one, other in pairs) or "-"


def plain_deed_text(deed):
    if deed == ("bare",):
        return "bare"
    return " ".join([deed[0], figures(deed[1])] + [words(flips) for flips in deed[2:]])


def plain_deeds_text(deeds):
    return " ; ".join(plain_deed_text(deed) for deed in deeds) or "none"


def plain_line_text(line):
    return line[0] + " " + words(line[1])


def plain_ways_ahead(posts, ways, word):
    """Whether a written web goes on with this word: its way begins with the least hand not met yet."""
    met = {hand for way in ways for hand in way}
    left = [hand for hand in range(4 * posts) if hand not in met]
    fits = [str(hand) for hand in left[:1]] + [f"{left[0]}-{hand}" for hand in left[1:]]
    return tuple(int(part) for part in word.split("-")) if word in fits else None


def plain_read_web(text):
    """(web, None), or (None, the number of the word that no written web has there)."""
    parts = text.split(" ")
    if parts[0] not in [str(many) for many in range(61)]:
        return None, 0
    posts, ways = int(parts[0]), []
    if parts[1:2] != [":"]:
        return None, 1
    for at, word in enumerate(parts[2:]):
        way = plain_ways_ahead(posts, ways, word)
        if way is None:
            return None, at + 2
        ways.append(way)
    if sum(map(len, ways)) < 4 * posts:
        return None, len(parts)
    return (posts, tuple(ways)), None


def plain_read_deeds(web, painting, text, candidates):
    """(deeds, None) or (None, number); candidates are all deeds that a part may be, written."""
    if text == "none":
        return (), None
    parts = text.split(" ; ")
    if len(parts) > 60:
        return None, 0
    here, deeds = painting, []
    for at, part in enumerate(parts):
        found = [deed for deed in candidates if plain_deed_text(deed) == part and plain_is_deed(web, here, deed)]
        if not found:
            return None, at
        deeds.append(found[0])
        here = plain_behind(web, here, found[0])
    return tuple(deeds), None
