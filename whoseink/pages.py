"""Pages: a bench as a text, the deeds that stand with a line feed behind each."""

from whoseink.bench import Bench
from whoseink.deeds import read_deed
from whoseink.errors import BadText, InkError, Missing


def page(bench):
    """The page of the bench."""
    return str(bench)


def read_page(text):
    """The Bench at which the deeds were done; BadText, with the number of the first row that is none."""
    bench = Bench()
    rows = text.split("\n")
    for number, row in enumerate(rows[:-1]):
        try:
            bench.do(read_deed(row))
        except (InkError, Missing) as why:
            raise BadText(number) from why
    # Behind the last line feed there is nothing, or a row that lacks its own.
    if rows[-1]:
        raise BadText(len(rows) - 1)
    return bench
