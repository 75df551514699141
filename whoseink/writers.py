"""Names, signs and writers, and how a writer is written and read."""

from whoseink.errors import BadText

MOST_ARROWS = 9
MOST_COUNT = 3
_MOST_LETTERS = 6
_LAST_PLACE = 2


def is_name(text):
    """Whether the text is 1 to 6 small letters."""
    return 1 <= len(text) <= _MOST_LETTERS and all([is_sign(letter) for letter in text])


def is_sign(text):
    """Whether the text is one small letter."""
    return len(text) == 1 and "a" <= text <= "z"


def is_writer(thing):
    """Whether a tuple is a writer: (name, arrows, patience, cap)."""
    if len(thing) != 4:
        return False
    name, arrows, patience, cap = thing
    return is_name(name) and _are_arrows(arrows) and _is_count(patience) and _is_count(cap)


def _is_count(number):
    return 0 <= number <= MOST_COUNT


def _is_place(number):
    return 0 <= number <= _LAST_PLACE


def _are_arrows(arrows):
    if len(arrows) > MOST_ARROWS:
        return False
    if not all([_is_place(place) and is_sign(sign) and _is_place(to) for place, sign, to in arrows]):
        return False
    # Rising triples of which no two have one place and sign: their heads rise, none stands twice.
    heads = [(place, sign) for place, sign, _ in arrows]
    return all([head < following for head, following in zip(heads, heads[1:])])


def sheds(writer):
    """The rising list of places, of those to which its arrows lead, at which the writer is done."""
    arrows = writer[1]
    reached = {0: True}
    # A way to a place that comes to no place twice has at most so many arrows.
    for _ in range(_LAST_PLACE):
        for place, _, to in arrows:
            if place in reached:
                reached[to] = True
    left = [place for place, _, _ in arrows]
    return [place for place in sorted(reached) if place not in left]


def writer_text(writer):
    """The writer as a text, such as ann/0a1;1b0/2/0."""
    name, arrows, patience, cap = writer
    told = ";".join([f"{place}{sign}{to}" for place, sign, to in arrows]) or "-"
    return f"{name}/{told}/{patience}/{cap}"


def read_writer(text):
    """The writer that is so written; BadText for any other text."""
    parts = text.split("/")
    if len(parts) != 4 or not _is_figure(parts[2]) or not _is_figure(parts[3]):
        raise BadText(0)
    words = [] if parts[1] == "-" else parts[1].split(";")
    if not all([_is_arrow_text(word) for word in words]):
        raise BadText(0)
    arrows = tuple([(int(word[0]), word[1], int(word[2])) for word in words])
    writer = (parts[0], arrows, int(parts[2]), int(parts[3]))
    if not is_writer(writer):
        raise BadText(0)
    return writer


def _is_figure(text):
    # All numbers of a writer have one figure.
    return len(text) == 1 and "0" <= text <= "9"


def _is_arrow_text(word):
    return len(word) == 3 and _is_figure(word[0]) and _is_figure(word[2])
