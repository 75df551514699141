"""The whole program: what is handed in by place and by name, and what is told of the same asked again."""

import copy
import unittest

from bench_by_hand import DEEDS, bench_of, state
from by_hand import company_row

from whoseink.bench import Bench
from whoseink.clashes import breaks, is_least, let_go
from whoseink.companies import Company, carried
from whoseink.deeds import deed_text, need_deed, read_deed
from whoseink.delays import delay, is_doubt, is_ever, is_known, twice
from whoseink.desk import Desk
from whoseink.errors import BadDeed, Broken, InkError, Missing, NothingLeft
from whoseink.likeness import is_same, likeness
from whoseink.pages import page, read_page
from whoseink.papers import bar, is_bar
from whoseink.places import fewest, is_fewest, tells_all
from whoseink.scrolls import Scroll
from whoseink.settling import is_never, settle, settles
from whoseink.stamps import cheapest, is_cheapest
from whoseink.tellings import extreme, farthest, how_many, is_telling, may, must, number_of, telling
from whoseink.writers import is_name, is_sign, is_writer, read_writer, sheds, writer_text

FREE = company_row("ann/0a0;0b0/0/0 bob/0a0;0b0/0/0")
TURNS = company_row("ann/0a1;1b1/1/1 bob/0a0/0/1")
BEGIN = ((0, 0), (0, 0), (-1, 0))


def free_scroll(said=()):
    return Scroll(Company(FREE), steps=["a", "b"], said=said)


def rows():
    """Each function with what it takes by place, its names, and what it takes behind a star. All of it is made anew."""
    free, turns, scroll = Company(FREE), Company(TURNS), free_scroll()
    torn = free_scroll([(0, "ann", True), (0, "bob", True)])
    _, n, pairs, ranks, shown = delay(Company(TURNS))
    _, at, lead, ring, one, other = delay(Company(FREE))
    prices = [("ann", "a", 1), ("ann", "b", 1), ("bob", "a", 0)]
    _, kinds, papers = cheapest(Company(FREE), prices)
    table = settle(free_scroll(), 0)[1]
    none = bar(free_scroll(), 0, "cy")
    lot, unlike = fewest(free_scroll())
    number, names, sums = let_go(free_scroll([(0, "ann", True), (0, "bob", True)]))
    return [
        (is_name, ("ann",), ("text",), {}), (is_sign, ("a",), ("text",), {}), (is_writer, (FREE[0],), ("thing",), {}),
        (sheds, (("ann", ((0, "a", 1),), 0, 0),), ("writer",), {}), (writer_text, (FREE[0],), ("writer",), {}),
        (read_writer, ("ann/-/0/0",), ("text",), {}), (Company, (list(FREE),), ("writers",), {}),
        (carried, (free, turns, BEGIN), ("one", "other", "stand"), {}),
        (free.steps, (BEGIN,), ("stand",), {}), (free.leaves, (["a", "b"],), ("strip",), {}),
        (Scroll, (free,), ("company",), {"steps": ["a", [FREE[0]]], "said": [(0, "ann", True)]}),
        (scroll.company, (1,), ("at",), {}), (scroll.lets, (0, "ann"), ("at", "name"), {}), (scroll.more, (["a"],), ("steps",), {}),
        (how_many, (scroll,), ("scroll",), {}), (telling, (scroll,), ("scroll",), {"number": 0}),
        (number_of, (scroll, ["ann", "bob"]), ("scroll", "names"), {}), (is_telling, (scroll, ["ann", "bob"]), ("scroll", "names"), {}),
        (may, (scroll, 0), ("scroll", "at"), {}), (must, (scroll, 0), ("scroll", "at"), {}),
        (extreme, (scroll, "ann"), ("scroll", "name"), {"most": True}), (farthest, (scroll, ["ann", "cy"]), ("scroll", "names"), {}),
        (bar, (scroll, 0, "cy"), ("scroll", "at", "name"), {}),
        (is_bar, (scroll, 0, "cy", *none), ("scroll", "at", "name", "forth", "live"), {}),
        (twice, (turns,), ("company",), {"stamps": ()}), (delay, (turns,), ("company",), {"who": None, "stamps": ()}),
        (delay, (free,), ("company",), {"who": None, "stamps": ()}),
        (is_known, (turns, n, pairs, ranks), ("company", "n", "pairs", "ranks"), {"who": None, "stamps": ()}),
        (is_doubt, (turns, *shown, n - 1), ("company", "strip", "one", "other", "many"), {"who": None, "stamps": ()}),
        (is_ever, (free, at, lead, ring, one, other), ("company", "at", "lead", "ring", "one", "other"), {"who": None, "stamps": ()}),
        (settle, (scroll, 0), ("scroll", "at"), {}), (settles, (scroll, 0, ["a"]), ("scroll", "at", "signs"), {}),
        (is_never, (scroll, 0, table), ("scroll", "at", "table"), {}), (cheapest, (free, prices), ("company", "prices"), {"most": 0}),
        (is_cheapest, (free, prices, kinds, papers), ("company", "prices", "kinds", "shown"), {"most": 0}),
        (likeness, (free, turns), ("one", "other"), {}), (likeness, (free, Company(FREE[:1])), ("one", "other"), {}),
        (is_same, (free, free, likeness(free, free)[1]), ("one", "other", "pairs"), {}),
        (fewest, (scroll,), ("scroll",), {}), (tells_all, (scroll, (0,)), ("scroll", "lot"), {}),
        (is_fewest, (scroll, lot, unlike), ("scroll", "lot", "pairs"), {}), (let_go, (torn,), ("scroll",), {}),
        (breaks, (torn, ["ann", "ann"]), ("scroll", "names"), {}),
        (is_least, (torn, number, names, sums), ("scroll", "number", "names", "sums"), {}),
        (need_deed, (DEEDS[0],), ("deed",), {}), (deed_text, (DEEDS[0],), ("deed",), {}), (read_deed, ("sign a",), ("text",), {}),
        (page, (bench_of(*DEEDS),), ("bench",), {}), (read_page, ("come ann/-/0/0\n",), ("text",), {}),
    ]


def bench_rows():
    """Each method of a bench that takes something, as in rows()."""
    return [
        ("do", (("sign", "a"),), ("deed",), {}), ("batch", ([("sign", "a"), ("said", 0, "cy")],), ("deeds",), {}),
        ("come", ("finn",), ("name",), {"arrows": (), "patience": 0, "cap": 0}), ("sign", ("a",), ("sign",), {}),
        ("said", (0, "cy"), ("at", "name"), {"so": True}), ("known", (3,), ("count",), {}), ("may", (0,), ("at",), {}),
        ("watched", (0,), ("at",), {}),
    ]


def shape(told):
    """What is told, Scrolls, Benches and the like by what they tell."""
    if isinstance(told, Scroll):
        return (told.signs(), told.said(), told.forth(), [str(told.company(at)) for at in range(len(told) + 1)])
    if isinstance(told, Bench):
        return state(told)
    return told


def spoil(told):
    """Changes each list that is told, lists within it too."""
    if isinstance(told, (list, tuple)):
        for each in told:
            spoil(each)
    if isinstance(told, list):
        told.append("odd")
        told.reverse()


class ByPlaceAndByName(unittest.TestCase):

    def test_functions(self):
        for act, things, names, more in rows():
            with self.subTest(act.__name__):
                told = shape(act(*things, **more))
                by_name = dict(zip(names, things))
                self.assertEqual(shape(act(**by_name, **more)), told)
                self.assertEqual(shape(act(**dict(reversed(list({**by_name, **more}.items()))))), told)
                if more and act is not Scroll:
                    # What is handed in here behind the star is what stands there where it is left out.
                    self.assertEqual(shape(act(*things)), told)
                if more:
                    with self.assertRaises(TypeError):
                        act(*things, *more.values())

    def test_a_company_and_a_scroll_of_nothing(self):
        self.assertEqual((Company(), Scroll(Company()).signs(), Scroll(Company()).said()), (Company([]), [], []))

    def test_methods_of_a_bench(self):
        for name, things, names, more in bench_rows():
            with self.subTest(name):
                benches = [bench_of(*DEEDS[:5]) for _ in range(4)]
                by_name = dict(zip(names, things))
                told = [
                    getattr(benches[0], name)(*things, **more), getattr(benches[1], name)(**by_name, **more),
                    getattr(benches[2], name)(**dict(reversed(list({**by_name, **more}.items())))),
                    getattr(benches[3], name)(*things),
                ]
                self.assertEqual([shape(each) for each in told], [shape(told[0])] * 4)
                self.assertEqual([state(bench) for bench in benches], [state(benches[0])] * 4)
                if more:
                    with self.assertRaises(TypeError):
                        getattr(benches[0], name)(*things, *more.values())

    def test_a_desk(self):
        self.assertEqual((Desk(table=None).bench(), Desk().say("strip"), Desk().say(line="strip")), (Bench(), "none", "none"))


class AskedAgain(unittest.TestCase):

    def test_the_same_is_told_alike(self):
        # Also of things that were made anew, and where what was told first was changed.
        for first, second in zip(rows(), rows()):
            act, things, _, more = first
            with self.subTest(act.__name__):
                told = shape(act(*things, **more))
                kept = copy.deepcopy(told)
                spoil(told)
                self.assertEqual(shape(act(*things, **more)), kept)
                self.assertEqual(shape(second[0](*second[1], **second[3])), kept)

    def test_what_is_handed_in_stays(self):
        for act, things, _, more in rows():
            with self.subTest(act.__name__):
                kept = [shape(thing) for thing in copy.deepcopy(things)]
                act(*things, **more)
                self.assertEqual([shape(thing) for thing in things], kept)

    def test_a_bench(self):
        bench = bench_of(*DEEDS[:8])
        bench.undo()
        bench.lots()
        for ask in (
            bench.deeds, bench.undone, bench.scroll, bench.company, bench.confessions, bench.many, bench.lots, bench.watches,
            bench.notes, bench.kept, bench.made, bench.twin, lambda: bench.may(0), lambda: bench.watched(0), lambda: bench.known(4),
            lambda: page(bench), lambda: bench.batch([]),
        ):
            ahead, told = state(bench), ask()
            kept = copy.deepcopy(shape(told))
            spoil(told)
            self.assertEqual((shape(ask()), state(bench)), (kept, ahead))


class Refusals(unittest.TestCase):

    def test_where_they_stand(self):
        for deed, above in (((), InkError), (("sign", "A"), InkError), (("leave", "zoe"), Missing), (("unsay", 9), Missing)):
            with self.assertRaises(above) as caught:
                Bench().do(deed)
            self.assertIsInstance(caught.exception, ValueError if above is InkError else LookupError)
        with self.assertRaises(Broken) as caught:
            Bench().batch([("odd",)])
        self.assertIsInstance(caught.exception.__cause__, BadDeed)
        with self.assertRaises(NothingLeft) as caught:
            Bench().undo()
        self.assertFalse(isinstance(caught.exception, (InkError, Missing)))


if __name__ == "__main__":
    unittest.main()
