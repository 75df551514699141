"""The bench: its deeds, their refusals, and what is asked of it, held against a bench by hand."""

import itertools
import unittest

from bench_by_hand import ANN, BOB, CY, DI, EVE, Hand, Table, bench_of, refusal, state
from by_hand import chances, some_writer, tellings_by_hand

from whoseink.bench import Bench
from whoseink.companies import Company
from whoseink.errors import (
    BadDeed, BadName, BadNumber, BadSign, BadWriter, Broken, Clash, Full, NoName, NoSaid, NoSign, NothingLeft, NoWatch,
    Taken, Unwritten,
)
from whoseink.scrolls import Scroll
from whoseink.tellings import how_many, may

THIRTY = 10 ** 30 - 1
NO_WRITERS = (
    ("ann", (), 0), (), ("ann", (), 0, 0, 0), ("", (), 0, 0), ("Ann", (), 0, 0), ("abcdefg", (), 0, 0),
    ("ann", ((3, "a", 0),), 0, 0), ("ann", ((0, "ab", 0),), 0, 0), ("ann", ((0, "a", -1),), 0, 0),
    ("ann", ((0, "a", 0), (0, "a", 1)), 0, 0), ("ann", (), 4, 0), ("ann", (), 0, -1), ("ann", (), 0, THIRTY),
)


class Checks(unittest.TestCase):

    def refused(self, bench, kind, *deeds, **fields):
        """Whether each of the deeds is refused so, and changes nothing."""
        for deed in deeds:
            ahead = state(bench)
            with self.subTest(deed=deed):
                with self.assertRaises(kind) as caught:
                    bench.do(deed)
                self.assertEqual((type(caught.exception), caught.exception.word), (kind, kind.__name__))
                for name, expected in fields.items():
                    self.assertEqual(getattr(caught.exception, name), expected)
                self.assertEqual(state(bench), ahead)


class Come(Checks):

    def test_writers_join_as_the_last_ones(self):
        bench = Bench()
        for writer in (BOB, ANN, CY):
            self.assertIsNone(bench.do(("come", writer)))
        self.assertEqual(bench.company(), Company([BOB, ANN, CY]))
        self.assertIsInstance(bench.company(), Company)

    def test_bad_writer(self):
        for bench in (bench_of(), bench_of(("come", ANN), ("come", BOB), ("come", CY))):
            self.refused(bench, BadWriter, *[("come", odd) for odd in NO_WRITERS], at=0)

    def test_taken(self):
        bench = bench_of(("come", ANN), ("come", BOB))
        self.refused(bench, Taken, ("come", ANN), ("come", ("ann", (), 0, 0)), name="ann")
        bench.do(("come", CY))
        self.refused(bench, Taken, ("come", BOB), ("come", ("bob", (), 3, 0)), name="bob")

    def test_full(self):
        bench = bench_of(("come", ANN), ("come", BOB), ("come", CY))
        self.refused(bench, Full, ("come", DI))
        bench.do(("leave", "ann"))
        bench.do(("come", DI))
        self.assertEqual(bench.company(), Company([BOB, CY, DI]))

    def test_by_name(self):
        bench = Bench()
        self.assertIsNone(bench.come("ann"))
        self.assertIsNone(bench.come(cap=1, patience=2, arrows=((0, "a", 1),), name="bob"))
        self.assertIsNone(bench.come("cy", arrows=[(0, "a", 0)]))
        self.assertEqual(bench.deeds(), [
            ("come", ("ann", (), 0, 0)), ("come", ("bob", ((0, "a", 1),), 2, 1)), ("come", ("cy", ((0, "a", 0),), 0, 0)),
        ])
        with self.assertRaises(Full):
            bench.come("di")
        with self.assertRaises(Taken):
            bench.come("ann", cap=3)
        with self.assertRaises(BadWriter):
            bench.come("ann", cap=4)


class LeaveAndChange(Checks):

    def test_leave(self):
        bench = bench_of(("come", ANN), ("come", BOB), ("come", CY))
        self.assertIsNone(bench.do(("leave", "bob")))
        self.assertEqual(bench.company().names(), ["ann", "cy"])
        for name in ("bob", "di", "", "Ann", "two words"):
            self.refused(bench, NoName, ("leave", name), name=name)

    def test_change_in_its_place(self):
        bench = bench_of(("come", ANN), ("come", BOB), ("come", CY))
        other = ("bob", ((0, "z", 2),), 1, 0)
        self.assertIsNone(bench.do(("change", other)))
        self.assertEqual(bench.company(), Company([ANN, other, CY]))
        bench.do(("change", other))
        self.assertEqual((bench.company(), len(bench.deeds())), (Company([ANN, other, CY]), 5))

    def test_a_changed_writer_begins_anew(self):
        bench = bench_of(("come", ANN), ("sign", "a"))
        self.refused(bench, Unwritten, ("sign", "a"), at=1)
        bench.do(("change", ("ann", ANN[1], 3, 0)))
        bench.do(("sign", "a"))
        self.assertEqual(bench.scroll().company(1), Company([("ann", ANN[1], 3, 0)]))

    def test_one_who_comes_again_begins_anew(self):
        bench = bench_of(("come", ANN), ("sign", "a"), ("leave", "ann"), ("come", ANN))
        self.refused(bench, Unwritten, ("sign", "b"), at=1)
        bench.do(("sign", "a"))

    def test_bad_writer_goes_ahead_of_no_name(self):
        for bench in (bench_of(), bench_of(("come", ANN))):
            self.refused(bench, BadWriter, *[("change", odd) for odd in NO_WRITERS], at=0)
            self.refused(bench, NoName, ("change", BOB), name="bob")
        self.refused(bench_of(), NoName, ("change", ANN), name="ann")


class CompanySteps(Checks):

    def twelve(self):
        return bench_of(
            ("come", ANN), ("come", BOB), ("change", BOB), ("leave", "ann"), ("come", CY), ("change", CY), ("leave", "cy"),
            ("come", CY), ("come", ANN), ("leave", "bob"), ("change", ANN), ("change", CY),
        )

    def test_twelve_at_most(self):
        bench = self.twelve()
        self.assertEqual(bench.company().names(), ["cy", "ann"])
        self.refused(bench, Full, ("come", BOB), ("leave", "ann"), ("change", ANN), ("change", CY))
        bench.do(("sign", "a"))
        bench.do(("said", 0, "cy"))
        self.refused(bench, Full, ("come", BOB), ("leave", "cy"))

    def test_full_behind_all_else(self):
        bench = self.twelve()
        self.refused(bench, BadWriter, *[(word, odd) for word in ("come", "change") for odd in NO_WRITERS], at=0)
        self.refused(bench, Taken, ("come", ("ann", (), 0, 0)), name="ann")
        self.refused(bench, NoName, ("leave", "bob"), ("change", BOB), name="bob")

    def test_one_taken_back_leaves_room(self):
        bench = self.twelve()
        bench.undo()
        bench.do(("come", BOB))
        self.refused(bench, Full, ("leave", "bob"))

    def test_a_scroll_of_twelve(self):
        bench = self.twelve()
        made = bench.scroll()
        self.assertEqual((made.signs(), made.company(0)), ([], bench.company()))


class Signs(Checks):

    def test_signs(self):
        bench = bench_of(("come", ANN), ("come", BOB))
        self.assertIsNone(bench.sign("a"))
        self.assertIsNone(bench.sign(sign="b"))
        self.assertEqual((bench.scroll().signs(), len(bench)), (["a", "b"], 2))

    def test_bad_sign(self):
        odd = ["", "A", "ab", "1", " ", "-", "\n", "aa"]
        self.refused(bench_of(), BadSign, *[("sign", text) for text in odd])
        bench = bench_of(("come", CY), *[("sign", "a")] * 24)
        self.refused(bench, BadSign, *[("sign", text) for text in odd])

    def test_unwritten(self):
        self.refused(bench_of(), Unwritten, ("sign", "a"), at=0)
        bench = bench_of(("come", ANN), ("sign", "a"), ("sign", "b"))
        self.refused(bench, Unwritten, ("sign", "b"), ("sign", "z"), at=2)

    def test_full_goes_ahead_of_unwritten(self):
        bench = bench_of(("come", CY), *[("sign", "a")] * 24)
        self.assertEqual(len(bench), 24)
        self.refused(bench, Full, ("sign", "a"), ("sign", "z"))

    def test_unwritten_by_what_is_confessed(self):
        # The b behind it can't be written where bob wrote the a.
        bench = bench_of(("come", ANN), ("come", BOB), ("sign", "a"), ("said", 0, "bob"))
        self.refused(bench, Unwritten, ("sign", "b"), at=1)
        bench.do(("unsay", 0))
        bench.do(("sign", "b"))


class Confessing(Checks):

    def begun(self):
        return bench_of(("come", ANN), ("come", BOB), ("sign", "a"), ("sign", "a"))

    def test_numbers(self):
        bench = self.begun()
        self.assertEqual(bench.do(("said", 0, "ann")), 0)
        self.assertEqual(bench.do(("denied", 1, "ann")), 1)
        self.assertEqual(bench.said(0, "ann"), 2)
        self.assertEqual(bench.said(so=False, name="zoe", at=0), 3)
        self.assertEqual(bench.confessions(), [(0, 0, "ann", True), (1, 1, "ann", False), (2, 0, "ann", True),
                                               (3, 0, "zoe", False)])
        self.assertEqual(bench.deeds()[-2:], [("said", 0, "ann"), ("denied", 0, "zoe")])
        self.assertEqual(bench.scroll().said(), [(0, "ann", True), (1, "ann", False), (0, "ann", True), (0, "zoe", False)])

    def test_struck_ones_keep_their_numbers(self):
        bench = self.begun()
        for _ in range(3):
            bench.said(0, "ann")
        self.assertIsNone(bench.do(("unsay", 1)))
        self.assertEqual(bench.said(1, "bob"), 3)
        bench.do(("unsay", 3))
        self.assertEqual(bench.said(1, "bob"), 4)
        self.assertEqual([row[0] for row in bench.confessions()], [0, 2, 4])
        for number in (1, 3, 5, 6, -1, THIRTY, -THIRTY):
            self.refused(bench, NoSaid, ("unsay", number), number=number)

    def test_unsay_where_there_is_none(self):
        self.refused(bench_of(), NoSaid, ("unsay", 0), number=0)

    def test_no_sign(self):
        for bench, odd in ((bench_of(), (0, -1)), (self.begun(), (2, 3, -1, -2, THIRTY, -THIRTY))):
            for at, word in itertools.product(odd, ("said", "denied")):
                self.refused(bench, NoSign, (word, at, "ann"), (word, at, ""), at=at)

    def test_bad_name(self):
        bench = self.begun()
        odd = ("", "Ann", "abcdefg", "a b", "1")
        self.refused(bench, BadName, *[(word, 0, text) for word in ("said", "denied") for text in odd])
        for _ in range(24):
            bench.said(0, "zoe", so=False)
        self.refused(bench, BadName, *[(word, 1, text) for word in ("said", "denied") for text in odd])

    def test_clash(self):
        bench = self.begun()
        self.refused(bench, Clash, ("said", 0, "zoe"), ("said", 1, "cy"))
        bench.said(0, "ann")
        self.refused(bench, Clash, ("said", 0, "bob"), ("denied", 0, "ann"), ("said", 1, "ann"), ("denied", 1, "bob"))
        # Of the names behind the last sign nothing is asked, nor of who has left.
        bench.do(("leave", "ann"))
        self.refused(bench, Clash, ("said", 0, "bob"))
        self.assertEqual(bench.said(1, "bob"), 1)

    def test_full_goes_ahead_of_clash(self):
        bench = self.begun()
        for at in range(24):
            self.assertEqual(bench.said(0, "zoe", so=False), at)
        self.refused(bench, Full, ("said", 0, "ann"), ("said", 0, "zoe"), ("denied", 1, "ann"))
        bench.do(("unsay", 7))
        self.refused(bench, Clash, ("said", 0, "zoe"))
        self.assertEqual(bench.said(0, "ann"), 24)
        self.assertEqual(len(bench.confessions()), 24)
        self.refused(bench, Full, ("denied", 0, "zoe"))

    def test_a_refused_one_takes_no_number(self):
        bench = self.begun()
        self.refused(bench, Clash, ("said", 0, "zoe"))
        self.assertEqual(bench.said(0, "ann"), 0)


class Watching(Checks):

    def begun(self, many=8):
        return bench_of(("come", CY), ("come", EVE), *[("sign", "a")] * many)

    def test_watches_rise(self):
        bench = self.begun()
        for at in (5, 0, 3):
            self.assertIsNone(bench.do(("watch", at)))
        self.assertEqual(bench.watches(), [0, 3, 5])
        self.assertIsNone(bench.do(("unwatch", 3)))
        self.assertEqual(bench.watches(), [0, 5])

    def test_refusals(self):
        bench = self.begun()
        for at in (8, 9, -1, THIRTY, -THIRTY):
            self.refused(bench, NoSign, ("watch", at), at=at)
            self.refused(bench, NoWatch, ("unwatch", at), at=at)
        for at in (3, 0, 7, 4, 5, 6):
            bench.do(("watch", at))
        self.refused(bench, NoSign, ("watch", 8), at=8)
        for at in (3, 0, 7):
            self.refused(bench, Taken, ("watch", at), name=at)
        self.refused(bench, Full, ("watch", 1), ("watch", 2))
        self.refused(bench, NoWatch, ("unwatch", 1), at=1)
        bench.do(("unwatch", 0))
        bench.do(("watch", 1))
        self.refused(bench, Full, ("watch", 0))

    def test_watched(self):
        bench = self.begun()
        bench.do(("watch", 2))
        self.assertEqual(bench.watched(2), ["cy", "eve"])
        for at in (0, 8, -1, THIRTY):
            with self.assertRaises(NoWatch) as caught:
                bench.watched(at)
            self.assertEqual((type(caught.exception), caught.exception.at), (NoWatch, at))


class OtherDeeds(Checks):

    def test_bad_deeds(self):
        bench = bench_of(("come", ANN), ("sign", "a"))
        self.refused(
            bench, BadDeed, (), ("",), ("Come", ANN), ("come",), ("come", ANN, ANN), ("come", *ANN), ("leave",),
            ("leave", "zoe", "zoe"), ("change",), ("change", BOB, BOB), ("sign",), ("sign", "A", "a"), ("said", 9),
            ("said",), ("said", 9, "ann", True), ("denied", 9), ("unsay",), ("unsay", 9, 9), ("watch",),
            ("watch", 9, 9), ("unwatch",), ("unwatch", 9, "a"), ("undo",), ("redo",), ("may", 0), ("many",),
            ("come ann/-/0/0",), ("unsay", 0, "ann"), ("batch", ()),
        )


class Asking(Checks):

    def test_of_an_empty_bench(self):
        bench = Bench()
        self.assertEqual((bench.deeds(), bench.undone(), bench.confessions(), bench.watches(), bench.notes()), ([],) * 5)
        self.assertEqual((bench.many(), bench.lots(), bench.company()), (1, [[((), (), (-1, 0))]], Company()))
        self.assertEqual((len(bench), repr(bench), str(bench), bool(bench)), (0, "Bench(0 writers, 0 signs, 0 deeds)", "", False))
        self.assertEqual((bench.scroll().signs(), bench.scroll().said(), bench.scroll().company(0)), ([], [], Company()))
        with self.assertRaises(NoSign) as caught:
            bench.may(0)
        self.assertEqual(caught.exception.at, 0)

    def test_may(self):
        bench = bench_of(("come", ANN), ("come", BOB), ("sign", "a"), ("sign", "a"), ("sign", "b"))
        self.assertEqual([bench.may(at) for at in range(3)], [["ann", "bob"], ["ann", "bob"], ["ann"]])
        self.assertEqual((bench.may(at=0), bench.many()), (["ann", "bob"], 2))
        for at in (3, 4, -1, THIRTY, -THIRTY):
            with self.assertRaises(NoSign) as caught:
                bench.may(at)
            self.assertEqual((type(caught.exception), caught.exception.at), (NoSign, at))

    def test_against_the_scroll_of_the_same_steps(self):
        bench = bench_of(
            ("come", ANN), ("come", BOB), ("sign", "a"), ("leave", "ann"), ("come", CY), ("sign", "a"), ("said", 0, "ann"),
            ("sign", "b"), ("come", ANN), ("denied", 1, "cy"), ("unsay", 0), ("denied", 2, "zoe"),
        )
        steps = [[ANN], [ANN, BOB], "a", [BOB], [BOB, CY], "a", "b", [BOB, CY, ANN]]
        made = Scroll(Company(), steps=steps, said=[(1, "cy", False), (2, "zoe", False)])
        told = bench.scroll()
        self.assertEqual((told.signs(), told.said(), told.forth()), (made.signs(), made.said(), made.forth()))
        self.assertEqual([told.company(at) for at in range(4)], [made.company(at) for at in range(4)])
        self.assertEqual((bench.lots(), bench.many()), (made.forth(), how_many(made)))
        self.assertEqual([bench.may(at) for at in range(3)], [may(made, at) for at in range(3)])
        self.assertEqual(bench.confessions(), [(1, 1, "cy", False), (2, 2, "zoe", False)])

    def test_told_lists_are_new_ones(self):
        bench = bench_of(
            ("come", CY), ("come", EVE), ("sign", "a"), ("watch", 0), ("said", 0, "cy"), ("sign", "a"), ("watch", 1), ("sign", "b"),
        )
        bench.undo()
        asks = (
            bench.deeds, bench.undone, bench.confessions, bench.watches, bench.notes, bench.lots, lambda: bench.may(1),
            lambda: bench.watched(1), lambda: bench.batch([]),
        )
        for ask in asks:
            told = ask()
            kept = [list(each) if isinstance(each, list) else each for each in told]
            for each in told:
                if isinstance(each, list):
                    each.append("odd")
            told.append("odd")
            told.reverse()
            self.assertEqual(ask(), kept)
        self.assertEqual(bench.redo(), ("sign", "b"))

    def test_what_is_handed_in_is_not_kept(self):
        bench, arrows, deeds = Bench(), [(0, "a", 0)], [("sign", "a"), ("sign", "a")]
        bench.come("ann", arrows=arrows)
        arrows.append((1, "b", 0))
        self.assertEqual(bench.batch(deeds), [None, None])
        self.assertEqual(deeds, [("sign", "a"), ("sign", "a")])
        deeds.clear()
        self.assertEqual(bench.deeds(), [("come", ("ann", ((0, "a", 0),), 0, 0)), ("sign", "a"), ("sign", "a")])

    def test_repr_and_len(self):
        bench = bench_of(("come", ANN), ("come", BOB), ("sign", "a"), ("leave", "bob"), ("said", 0, "ann"), ("unsay", 0))
        self.assertEqual((repr(bench), len(bench)), ("Bench(1 writers, 1 signs, 6 deeds)", 1))
        bench.undo()
        self.assertEqual(repr(bench), "Bench(1 writers, 1 signs, 5 deeds)")

    def test_equal_where_the_deeds_that_stand_are_the_same(self):
        deeds = [("come", CY), ("sign", "a"), ("said", 0, "cy")]
        bench = bench_of(*deeds)
        self.assertTrue(bench == bench_of(*deeds))
        self.assertFalse(bench != bench_of(*deeds))
        self.assertFalse(bench == bench_of(*deeds[:2]))
        # What was taken back doesn't stand, and lots are no deeds.
        other = bench_of(*deeds, ("unsay", 0))
        self.assertNotEqual(other, bench)
        other.undo()
        other.lots()
        self.assertEqual((other, other.made() == bench.made()), (bench, False))
        # It is the deeds, not what they come to.
        self.assertNotEqual(bench_of(("come", CY), ("leave", "cy")), Bench())
        for odd in (None, 0, 3, "", str(bench), deeds, tuple(deeds), bench.scroll(), bench.company(), {}):
            self.assertFalse(bench == odd)
            self.assertTrue(bench != odd)
        self.assertFalse(Bench() == [])


class Steady(Checks):
    """Chance deeds, undone and done again, held against a bench by hand."""

    def some_deed(self, chance, hand):
        table = Table(hand.deeds)
        names = [writer[0] for writer in table.row]
        many = len(table.signs())
        word = chance.choice((
            "come", "come", "sign", "sign", "sign", "sign", "said", "denied", "denied", "unsay", "unsay", "watch", "watch",
            "unwatch", "leave", "change", "odd",
        ))
        if len(names) < 2 and chance.random() < 0.7:
            word = "come"
        if word in ("come", "change"):
            name = chance.choice(["ann", "bob", "cy", "di"])
            arrows = tuple((place, sign, chance.randrange(3)) for place in range(3) for sign in "ab")
            writer = chance.choice([some_writer(chance, name), (name, arrows, 0, 0), (name, arrows, 0, chance.randrange(4))])
            return (word, writer if chance.random() < 0.95 else ("ann", (), 4, 0))
        if word == "leave":
            return (word, chance.choice([*names, "zoe"]) if chance.random() < 0.5 else "zoe")
        if word == "sign":
            return (word, chance.choice("aaaabA") if many < 5 else "")
        if word in ("said", "denied"):
            at = chance.randrange(many) if many and chance.random() < 0.9 else chance.randrange(-1, many + 1)
            return (word, at, chance.choice(["ann", "bob", "cy", "di", *names, *names, ""]))
        if word == "odd":
            return chance.choice([(), ("odd", 1), ("sign",), ("said", 0)])
        numbers = sorted(table.said) if word == "unsay" else table.watches if word == "unwatch" else list(range(many))
        if numbers and chance.random() < 0.8:
            return (word, chance.choice(numbers))
        return (word, chance.randrange(-1, max(table.numbers, many) + 1))

    def same(self, bench, hand, asking):
        table = Table(hand.deeds)
        self.assertEqual((bench.deeds(), bench.undone()), (hand.deeds, hand.gone[::-1]))
        self.assertEqual((bench.kept(), bench.made()), (len(hand.kept), hand.made))
        self.assertEqual(bench.confessions(), [(number, *table.said[number]) for number in sorted(table.said)])
        self.assertEqual((bench.watches(), bench.notes()), (sorted(table.watches), hand.notes()))
        self.assertEqual([bench.watched(at) for at in bench.watches()], [table.may(at) for at in bench.watches()])
        self.assertEqual((bench.company(), len(bench), str(bench)), (Company(table.row), len(table.signs()), hand.page()))
        self.assertEqual((bench.kept(), bench.made()), (len(hand.kept), hand.made))
        if asking:
            ask = [bench.lots, bench.many, lambda: bench.may(0)][asking % 3]
            try:
                told = ask()
            except NoSign:
                self.assertEqual((table.signs(), bench.made()), ([], hand.made))
                return
            hand.make()
            expected = [table.lots, lambda: len(table.tellings()), lambda: table.may(0)][asking % 3]()
            self.assertEqual((told, bench.kept(), bench.made()), (expected, len(hand.kept), hand.made))

    def go(self, chance, bench, hand, words):
        for _ in range(40):
            way = chance.random()
            if way < 0.12:
                words[self.undone(bench, hand, "undo", hand.deeds)] = True
            elif way < 0.2:
                words[self.undone(bench, hand, "redo", hand.gone)] = True
            elif way < 0.3:
                words[self.batched(bench, hand, [self.some_deed(chance, hand) for _ in range(chance.randrange(4))])] = True
            else:
                words[self.done(bench, hand, self.some_deed(chance, hand))] = True
            self.same(bench, hand, chance.randrange(12) if chance.random() < 0.3 else 0)

    def done(self, bench, hand, deed):
        due = refusal(hand.deeds, deed)
        if due is None:
            self.assertEqual(bench.do(deed), hand.do(deed))
            return deed[0]
        with self.assertRaises((ValueError, LookupError)) as caught:
            bench.do(deed)
        self.is_due(caught.exception, due)
        return due[0]

    def is_due(self, refusal_told, due):
        fields = [getattr(refusal_told, name) for name in ("at", "name", "number") if hasattr(refusal_told, name)]
        self.assertEqual((refusal_told.word, fields), (due[0], [due[1]] if due[1] is not None else []))

    def undone(self, bench, hand, word, rows):
        ask = bench.undo if word == "undo" else bench.redo
        if not rows:
            with self.assertRaises(NothingLeft):
                ask()
            return "NothingLeft"
        self.assertEqual(ask(), hand.undo() if word == "undo" else hand.redo())
        return word

    def batched(self, bench, hand, deeds):
        trial, told = Hand(), []
        trial.deeds, trial.gone, trial.kept, trial.made = list(hand.deeds), list(hand.gone), set(hand.kept), hand.made
        for at, deed in enumerate(deeds):
            due = refusal(trial.deeds, deed)
            if due is not None:
                with self.assertRaises(Broken) as caught:
                    bench.batch(deeds)
                self.assertEqual(caught.exception.at, at)
                self.is_due(caught.exception.__cause__, due)
                return "Broken"
            told.append(trial.do(deed))
        self.assertEqual(bench.batch(deeds), told)
        hand.deeds, hand.gone, hand.kept, hand.made = trial.deeds, trial.gone, trial.kept, trial.made
        return "batch"

    def test_against_a_bench_by_hand(self):
        words, notes = {}, 0
        for chance in chances(120):
            bench, hand = Bench(), Hand()
            self.go(chance, bench, hand, words)
            notes += len(bench.notes())
            twin = bench.twin()
            self.same(twin, hand, 0)
            count = chance.randrange(len(hand.deeds) + 1)
            elder, elder_hand = bench.known(count), Hand()
            elder_hand.deeds = hand.deeds[:count]
            self.same(elder, elder_hand, 0)
            self.assertEqual(bench.scroll().forth(), Table(hand.deeds).lots())
            self.assertEqual(tellings_by_hand([], Table(hand.deeds).steps, bench.scroll().said()), Table(hand.deeds).tellings())
        self.assertGreater(notes, 20)
        self.assertEqual({
            "come", "leave", "change", "sign", "said", "denied", "unsay", "watch", "unwatch", "undo", "redo", "batch",
            "Broken", "BadDeed", "BadWriter", "Taken", "NoName", "BadSign", "Unwritten", "NoSign", "BadName", "Clash",
            "NoSaid", "NoWatch", "NothingLeft", "Full",
        } - set(words), set())


class KnownNumbers(Checks):

    def test_bad_number(self):
        bench = bench_of(("come", CY), ("sign", "a"))
        bench.undo()
        for count in (-1, -2, 2, 3, THIRTY, -THIRTY):
            with self.assertRaises(BadNumber) as caught:
                bench.known(count)
            self.assertEqual(type(caught.exception), BadNumber)
        self.assertEqual((bench.known(1), bench.known(count=0)), (bench_of(("come", CY)), Bench()))


if __name__ == "__main__":
    unittest.main()
