"""The forth lots of a bench: how many are kept, and how many were made."""

import unittest

from bench_by_hand import ANN, BOB, CY, EVE, bench_of

from whoseink.bench import Bench
from whoseink.errors import BadNumber, Broken, NoSign, NothingLeft, NoWatch
from whoseink.pages import page, read_page

THIRTY = 10 ** 30 - 1


class Checks(unittest.TestCase):

    def counts(self, bench, kept, made):
        self.assertEqual((bench.kept(), bench.made()), (kept, made))

    def four(self):
        """Two writers and four signs, all five lots kept."""
        bench = bench_of(("come", CY), ("come", EVE), *[("sign", "a")] * 4)
        self.counts(bench, 5, 5)
        return bench


class Deeds(Checks):

    def test_company_steps_make_none(self):
        bench = Bench()
        self.counts(bench, 0, 0)
        for deed in (("come", CY), ("come", EVE), ("change", EVE), ("leave", "cy")):
            bench.do(deed)
            self.counts(bench, 0, 0)

    def test_company_steps_let_the_last_one_go(self):
        for deed in (("come", ANN), ("change", CY), ("leave", "cy"), ("change", ("cy", (), 0, 0))):
            bench = self.four()
            bench.do(deed)
            self.counts(bench, 4, 5)
            bench.do(("leave", "eve"))
            self.counts(bench, 4, 5)
            bench.many()
            self.counts(bench, 5, 6)
        bench = Bench()
        bench.lots()
        self.counts(bench, 1, 1)
        bench.do(("come", CY))
        self.counts(bench, 0, 1)

    def test_signs_make_what_lacks(self):
        bench = bench_of(("come", CY))
        bench.sign("a")
        self.counts(bench, 2, 2)
        for many in range(2, 25):
            bench.sign("b")
            self.counts(bench, many + 1, many + 1)

    def test_signs_let_nothing_go(self):
        bench = self.four()
        bench.do(("leave", "cy"))
        self.counts(bench, 4, 5)
        # What lacks is the fourth sign's and that behind the fifth one.
        bench.sign("a")
        self.counts(bench, 6, 7)
        bench.undo()
        bench.sign("b")
        self.counts(bench, 6, 13)

    def test_confessions_let_those_behind_go_and_make_them(self):
        for at, made in ((0, 9), (1, 8), (2, 7), (3, 6)):
            for word in ("said", "denied"):
                bench = self.four()
                bench.do((word, at, "cy"))
                self.counts(bench, 5, made)

    def test_struck_ones_let_those_behind_go_and_make_none(self):
        for at, kept in ((0, 1), (1, 2), (2, 3), (3, 4)):
            bench = self.four()
            bench.said(at, "cy")
            made = bench.made()
            bench.do(("unsay", 0))
            self.counts(bench, kept, made)
            bench.lots()
            self.counts(bench, 5, made + 5 - kept)

    def test_struck_behind_others(self):
        bench = self.four()
        bench.said(3, "cy")
        bench.said(1, "cy")
        self.counts(bench, 5, 9)
        bench.do(("unsay", 0))
        self.counts(bench, 4, 9)
        bench.do(("unsay", 1))
        self.counts(bench, 2, 9)
        bench.said(2, "cy")
        self.counts(bench, 5, 12)
        bench.said(0, "eve")
        self.counts(bench, 5, 16)

    def test_watches_let_nothing_go_and_make_what_lacks(self):
        bench = self.four()
        bench.do(("watch", 1))
        self.counts(bench, 5, 5)
        bench.do(("unwatch", 1))
        self.counts(bench, 5, 5)
        bench.do(("leave", "cy"))
        bench.do(("watch", 1))
        self.counts(bench, 5, 6)

    def test_each_deed_behind_which_a_watch_stands(self):
        bench = self.four()
        bench.do(("watch", 1))
        for deed, made in (
            (("leave", "cy"), 6), (("come", CY), 7), (("change", CY), 8), (("said", 2, "eve"), 10), (("unsay", 0), 12),
            (("sign", "a"), 13), (("watch", 4), 13), (("unwatch", 1), 13), (("come", ANN), 14),
        ):
            bench.do(deed)
            self.counts(bench, len(bench) + 1, made)
        # Behind the last watch's going none stands.
        bench.undo()
        self.counts(bench, 0, 14)
        bench.do(("unwatch", 4))
        self.counts(bench, 0, 14)
        bench.do(("leave", "eve"))
        self.counts(bench, 0, 14)

    def test_one_of_two_watches_goes(self):
        bench = self.four()
        bench.batch([("watch", 0), ("watch", 2), ("sign", "a")])
        self.counts(bench, 6, 6)
        bench.undo()
        self.counts(bench, 0, 6)
        bench.do(("unwatch", 0))
        self.counts(bench, 5, 11)
        bench.undo()
        bench.do(("watch", 3))
        self.counts(bench, 5, 16)

    def test_a_refused_deed_leaves_both(self):
        bench = self.four()
        bench.said(0, "cy")
        bench.do(("unsay", 0))
        self.counts(bench, 1, 9)
        for deed in (
            ("sign", "z"), ("sign", "A"), ("said", 1, "zoe"), ("said", 9, "cy"), ("denied", 0, ""), ("unsay", 0), ("come", CY),
            ("leave", "zoe"), ("change", ANN), ("watch", 9), ("unwatch", 0), (), ("odd", 1), ("come", ("", (), 0, 0)),
        ):
            with self.assertRaises((ValueError, LookupError)):
                bench.do(deed)
            self.counts(bench, 1, 9)
            with self.assertRaises(Broken):
                bench.batch([("sign", "a"), ("said", 0, "cy"), deed])
            self.counts(bench, 1, 9)

    def test_batches_go_deed_by_deed(self):
        bench = Bench()
        bench.batch([("come", CY), ("sign", "a"), ("sign", "a"), ("said", 0, "cy"), ("unsay", 0), ("watch", 1), ("come", EVE)])
        self.counts(bench, 3, 8)
        bench.batch([])
        self.counts(bench, 3, 8)


class Questions(Checks):

    def test_lots_may_and_many_make_what_lacks(self):
        for ask in (lambda bench: bench.lots(), lambda bench: bench.may(0), lambda bench: bench.may(3), lambda bench: bench.many()):
            bench = self.four()
            ask(bench)
            self.counts(bench, 5, 5)
            bench.said(1, "cy")
            bench.do(("unsay", 0))
            self.counts(bench, 2, 8)
            ask(bench)
            self.counts(bench, 5, 11)
            ask(bench)
            self.counts(bench, 5, 11)
            bench.do(("come", ANN))
            ask(bench)
            self.counts(bench, 5, 12)
            bench.undo()
            ask(bench)
            self.counts(bench, 5, 17)

    def test_of_no_signs(self):
        for ask in (lambda bench: bench.lots(), lambda bench: bench.many()):
            bench = Bench()
            ask(bench)
            self.counts(bench, 1, 1)
            bench.do(("come", CY))
            bench.sign("a")
            self.counts(bench, 2, 3)

    def test_a_refused_question_makes_none(self):
        bench = self.four()
        bench.undo()
        for at in (3, 4, -1, THIRTY):
            with self.assertRaises(NoSign):
                bench.may(at)
            self.counts(bench, 0, 5)

    def test_no_other_question_makes_any(self):
        bench = self.four()
        bench.batch([("watch", 0), ("said", 1, "cy"), ("watch", 3)])
        bench.undo()
        self.counts(bench, 0, 8)
        for ask in (
            bench.deeds, bench.undone, bench.scroll, bench.company, bench.confessions, bench.watches, bench.notes, bench.kept,
            bench.made, bench.twin, lambda: bench.watched(0), lambda: bench.known(3), lambda: len(bench), lambda: repr(bench),
            lambda: str(bench), lambda: page(bench), lambda: bench == bench.twin(), lambda: bench.scroll().forth(),
            lambda: bench.twin().lots(), lambda: bench.known(5).many(),
        ):
            ask()
            self.counts(bench, 0, 8)
        for ask, kind in ((lambda: bench.watched(3), NoWatch), (lambda: bench.known(99), BadNumber)):
            with self.assertRaises(kind):
                ask()
            self.counts(bench, 0, 8)
        self.assertEqual(bench.watched(0), ["cy", "eve"])

    def test_told_lots_are_the_scrolls(self):
        bench = bench_of(("come", ANN), ("come", BOB), ("sign", "a"), ("sign", "a"), ("come", CY), ("said", 0, "bob"), ("unsay", 0))
        for _ in range(2):
            self.assertEqual(bench.lots(), bench.scroll().forth())
            bench.lots()[0].clear()
            bench.lots().clear()
        bench.do(("leave", "ann"))
        self.assertEqual(bench.lots(), bench.scroll().forth())


class BackAndElsewhere(Checks):

    def test_taking_back_and_doing_again_let_all_go_and_make_none(self):
        bench = self.four()
        bench.undo()
        self.counts(bench, 0, 5)
        bench.lots()
        self.counts(bench, 4, 9)
        bench.redo()
        self.counts(bench, 0, 9)
        bench.do(("watch", 0))
        self.counts(bench, 5, 14)
        bench.undo()
        bench.redo()
        self.counts(bench, 0, 14)
        bench.many()
        with self.assertRaises(NothingLeft):
            bench.redo()
        self.counts(bench, 5, 19)

    def test_nothing_left_leaves_both(self):
        bench = Bench()
        bench.lots()
        for ask in (bench.undo, bench.redo):
            with self.assertRaises(NothingLeft):
                ask()
            self.counts(bench, 1, 1)

    def test_a_twin_has_them_too(self):
        bench = self.four()
        bench.do(("leave", "cy"))
        twin = bench.twin()
        self.counts(twin, 4, 5)
        twin.lots()
        self.counts(twin, 5, 6)
        self.counts(bench, 4, 5)
        bench.undo()
        self.counts(bench, 0, 5)
        self.counts(twin, 5, 6)

    def test_a_bench_of_elder_deeds_has_none(self):
        bench = self.four()
        bench.do(("watch", 0))
        for count in range(8):
            elder = bench.known(count)
            self.counts(elder, 0, 0)
            many = max(count - 2, 0) if count < 7 else 4
            elder.lots()
            self.counts(elder, many + 1, many + 1)
        self.counts(bench, 5, 5)

    def test_one_that_is_read_has_what_its_deeds_made(self):
        bench = self.four()
        bench.batch([("said", 1, "cy"), ("watch", 0), ("unsay", 0), ("unwatch", 0), ("come", ANN)])
        self.counts(bench, 4, 11)
        bench.undo()
        bench.redo()
        self.counts(bench, 0, 11)
        self.counts(read_page(page(bench)), 4, 11)
        bench.lots()
        self.counts(read_page(page(bench)), 4, 11)


if __name__ == "__main__":
    unittest.main()
