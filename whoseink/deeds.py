"""Deeds: what is done at a bench, as tuples, and how a deed is written and read."""

from whoseink.errors import BadDeed, BadText
from whoseink.writers import is_name, is_sign, read_writer, writer_text

_MOST_FIGURES = 30
# Of each first word, what the things behind it are.
_FORMS = {
    "come": ("writer",),
    "leave": ("name",),
    "change": ("writer",),
    "sign": ("sign",),
    "said": ("number", "name"),
    "denied": ("number", "name"),
    "unsay": ("number",),
    "watch": ("number",),
    "unwatch": ("number",),
}


def need_deed(deed):
    """BadDeed, where the tuple has another first word, or another count of things."""
    if not deed or deed[0] not in _FORMS or len(deed) != len(_FORMS[deed[0]]) + 1:
        raise BadDeed("no deed")


def deed_text(deed):
    """The deed as a text, such as `said 3 ann`."""
    kinds = _FORMS[deed[0]]
    things = [writer_text(thing) if kind == "writer" else f"{thing}" for kind, thing in zip(kinds, deed[1:])]
    return " ".join([deed[0], *things])


def read_deed(text):
    """The deed that is so written; BadText for any other text."""
    word, *things = text.split(" ")
    if word not in _FORMS or len(things) != len(_FORMS[word]):
        raise BadText(0)
    return (word, *[_read_thing(kind, thing) for kind, thing in zip(_FORMS[word], things)])


def read_number(text):
    """The number that is so written, without needless noughts; BadText for any other text."""
    figures = text[1:] if text.startswith("-") else text
    if not 1 <= len(figures) <= _MOST_FIGURES or not all(["0" <= figure <= "9" for figure in figures]):
        raise BadText(0)
    if figures[0] == "0" and text != "0":
        raise BadText(0)
    return int(text)


def _read_thing(kind, text):
    if kind == "writer":
        return read_writer(text)
    if kind == "number":
        return read_number(text)
    if not (is_name(text) if kind == "name" else is_sign(text)):
        raise BadText(0)
    return text
