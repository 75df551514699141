"""Watches: what they tell, and the notes that deeds give."""

import unittest

from bench_by_hand import ANN, BOB, CY, EVE, bench_of

from whoseink.errors import Clash, NoWatch, Unwritten
from whoseink.writers import read_writer

FINN = read_writer("finn/0a0;0b0/0/0")
BOTH = ("ann", "bob")


class Checks(unittest.TestCase):

    def begun(self, *more):
        """Ann and bob, one of whom wrote the first a and the other one the second."""
        return bench_of(("come", ANN), ("come", BOB), ("sign", "a"), ("sign", "a"), *more)

    def free(self, many, *more):
        """Cy, eve and finn, who write as they like."""
        return bench_of(("come", CY), ("come", EVE), ("come", FINN), *[("sign", "a")] * many, *more)


class Notes(Checks):

    def test_a_confession(self):
        bench = self.begun(("watch", 1))
        self.assertEqual(bench.notes(), [])
        bench.said(0, "ann")
        self.assertEqual(bench.notes(), [(6, 1, BOTH, ("bob",))])
        self.assertEqual([type(each) for each in (bench.notes()[0], *bench.notes()[0][2:])], [tuple] * 3)
        self.assertEqual(bench.watched(1), ["bob"])
        bench.do(("unsay", 0))
        self.assertEqual(bench.notes(), [(6, 1, BOTH, ("bob",)), (7, 1, ("bob",), BOTH)])

    def test_a_denial(self):
        bench = self.free(1, ("watch", 0))
        bench.said(0, "eve", so=False)
        bench.said(0, "zoe", so=False)
        bench.said(0, "finn", so=False)
        self.assertEqual(bench.notes(), [(6, 0, ("cy", "eve", "finn"), ("cy", "finn")), (8, 0, ("cy", "finn"), ("cy",))])

    def test_a_sign(self):
        # A b behind the a can be ann's alone, and the a ahead of it hers.
        bench = bench_of(("come", ANN), ("come", BOB), ("sign", "a"), ("watch", 0), ("sign", "b"))
        self.assertEqual(bench.notes(), [(5, 0, BOTH, ("ann",))])

    def test_a_company_step_turns_no_names(self):
        bench = self.begun(("watch", 0), ("leave", "ann"), ("come", CY), ("change", CY), ("leave", "bob"))
        self.assertEqual((bench.notes(), bench.watched(0)), ([], ["ann", "bob"]))
        # But what comes behind it does: of ann, who came again, nothing is left to write the b.
        bench = bench_of(("come", ANN), ("come", BOB), ("sign", "a"), ("watch", 0), ("leave", "bob"), ("sign", "a"))
        self.assertEqual(bench.notes(), [(6, 0, BOTH, ("bob",))])

    def test_several_watches_by_rising_signs(self):
        bench = self.begun(("sign", "b"), ("watch", 1), ("watch", 2), ("watch", 0))
        bench.said(1, "ann")
        self.assertEqual(bench.notes(), [(9, 0, BOTH, ("bob",)), (9, 1, BOTH, ("ann",))])
        bench.do(("unsay", 0))
        self.assertEqual(bench.notes()[2:], [(10, 0, ("bob",), BOTH), (10, 1, ("ann",), BOTH)])

    def test_other_deeds_give_none(self):
        bench = self.free(3, ("watch", 0), ("watch", 2), ("said", 1, "cy"), ("unsay", 0), ("unwatch", 2), ("watch", 1), ("sign", "b"))
        self.assertEqual(bench.notes(), [])

    def test_a_refused_deed_gives_none(self):
        bench = self.begun(("watch", 0), ("said", 0, "ann"))
        kept = bench.notes()
        with self.assertRaises(Clash):
            bench.said(0, "bob")
        with self.assertRaises(Unwritten):
            bench.sign("z")
        self.assertEqual((bench.notes(), bench.watched(0)), (kept, ["ann"]))

    def test_the_watch_stands_ahead_and_behind(self):
        # What turned ahead of the watch, or while it was let go, gives no note.
        bench = self.begun(("said", 0, "ann"), ("watch", 0))
        self.assertEqual((bench.notes(), bench.watched(0)), ([], ["ann"]))
        bench.do(("unwatch", 0))
        bench.do(("unsay", 0))
        bench.do(("watch", 0))
        self.assertEqual((bench.notes(), bench.watched(0)), ([], ["ann", "bob"]))
        bench.said(0, "bob")
        self.assertEqual(bench.notes(), [(10, 0, BOTH, ("bob",))])

    def test_notes_outlive_their_watch(self):
        bench = self.begun(("watch", 0), ("said", 0, "ann"), ("unwatch", 0))
        self.assertEqual(bench.notes(), [(6, 0, BOTH, ("ann",))])
        with self.assertRaises(NoWatch):
            bench.watched(0)

    def test_batches_deed_by_deed(self):
        bench = self.begun()
        bench.batch([("watch", 0), ("said", 0, "ann"), ("unsay", 0), ("said", 0, "bob")])
        self.assertEqual(bench.notes(), [(6, 0, BOTH, ("ann",)), (7, 0, ("ann",), BOTH), (8, 0, BOTH, ("bob",))])

    def test_names_in_order(self):
        bench = bench_of(("come", FINN), ("come", CY), ("come", EVE), ("sign", "a"), ("watch", 0))
        self.assertEqual(bench.watched(0), ["cy", "eve", "finn"])
        bench.said(0, "eve", so=False)
        self.assertEqual(bench.notes()[0][2:], (("cy", "eve", "finn"), ("cy", "finn")))


class GoingAndComing(Checks):

    def test_with_their_deeds(self):
        bench = self.begun(("watch", 0), ("said", 0, "ann"), ("unsay", 0), ("watch", 1), ("said", 1, "ann"))
        kept = bench.notes()
        self.assertEqual([note[0] for note in kept], [6, 7, 9, 9])
        for many, watched in ((2, BOTH), (2, BOTH), (1, ("ann",)), (0, BOTH)):
            bench.undo()
            self.assertEqual((bench.notes(), bench.watched(0)), (kept[:many], list(watched)))
        bench.undo()
        self.assertEqual((bench.notes(), bench.watches()), ([], []))
        for many in (0, 1, 2, 2, 4):
            bench.redo()
            self.assertEqual(bench.notes(), kept[:many])
        self.assertEqual((bench.watched(0), bench.watched(1)), (["bob"], ["ann"]))

    def test_another_deed_gives_its_own(self):
        bench = self.begun(("watch", 0), ("said", 0, "ann"))
        bench.undo()
        bench.said(0, "bob")
        self.assertEqual(bench.notes(), [(6, 0, BOTH, ("bob",))])

    def test_of_elder_deeds_and_twins(self):
        bench = self.begun(("watch", 0), ("said", 0, "ann"), ("unsay", 0))
        self.assertEqual([len(bench.known(count).notes()) for count in range(8)], [0] * 6 + [1, 2])
        self.assertEqual(bench.known(6).watched(0), ["ann"])
        twin = bench.twin()
        twin.said(0, "bob")
        self.assertEqual((len(twin.notes()), len(bench.notes())), (3, 2))


if __name__ == "__main__":
    unittest.main()
