"""The desk, which answers lines for a bench."""

from whoseink.bench import Bench
from whoseink.deeds import deed_text, read_deed, read_number
from whoseink.errors import BadText, InkError, Missing, NothingLeft
from whoseink.tellings import telling

# Of each question, how many numbers stand behind it.
_QUESTIONS = {"undo": 0, "redo": 0, "may": 1, "many": 0, "telling": 1, "names": 0, "strip": 0}


class Desk:
    """Lines in, answers out, for one bench."""

    def __init__(self, *, table=None):
        # An empty bench is as good as any other one, though it is of no length.
        self._table = Bench() if table is None else table

    def bench(self):
        """The bench."""
        return self._table

    def say(self, line):
        """The answer to the line."""
        try:
            asked = _read_line(line)
        except BadText:
            return "no line"
        try:
            return _answer(self._table, asked)
        except (InkError, Missing, NothingLeft) as why:
            return f"no {why.word}"


def _read_line(line):
    """The deed, or the question and its numbers, that the line is; BadText."""
    word, *numbers = line.split(" ")
    if word not in _QUESTIONS:
        return read_deed(line)
    if len(numbers) != _QUESTIONS[word]:
        raise BadText(0)
    return (word, *[read_number(number) for number in numbers])


def _answer(bench, asked):
    word = asked[0]
    if word == "undo":
        return deed_text(bench.undo())
    if word == "redo":
        return deed_text(bench.redo())
    if word == "may":
        return _joined(bench.may(asked[1]))
    if word == "many":
        return str(bench.many())
    if word == "telling":
        return _joined(telling(bench.scroll(), number=asked[1]))
    if word == "names":
        return _joined(bench.company().names())
    if word == "strip":
        return "".join(bench.scroll().signs()) or "none"
    told = bench.do(asked)
    return "done" if told is None else f"done {told}"


def _joined(names):
    return " ".join(names) or "none"
