"""Taking back and doing again, benches of elder deeds, twins, and batches."""

import unittest

from bench_by_hand import ANN, BOB, CY, DEEDS, bench_of, state

from whoseink.bench import Bench
from whoseink.errors import BadDeed, BadNumber, BadSign, Broken, Clash, Full, NoName, NoSaid, NothingLeft, NoWatch, Taken, Unwritten

THIRTY = 10 ** 30 - 1


def told(bench):
    """All that stands on a bench, but the lots."""
    return state(bench)[:9] + state(bench)[11:]


class Checks(unittest.TestCase):

    def nothing_left(self, ask, bench):
        ahead = state(bench)
        with self.assertRaises(NothingLeft) as caught:
            ask()
        self.assertEqual((type(caught.exception), caught.exception.word), (NothingLeft, "NothingLeft"))
        self.assertIsInstance(caught.exception, IndexError)
        self.assertEqual(state(bench), ahead)


class ThereAndBack(Checks):

    def test_each_deed(self):
        bench, states = Bench(), []
        for deed in DEEDS:
            states.append(told(bench))
            bench.do(deed)
        states.append(told(bench))
        for _ in range(2):
            for at in reversed(range(len(DEEDS))):
                self.assertEqual(bench.undo(), DEEDS[at])
                self.assertEqual((told(bench)[0], told(bench)[2:]), (states[at][0], states[at][2:]))
                self.assertEqual(bench.undone(), list(DEEDS[at:]))
            self.nothing_left(bench.undo, bench)
            for at, deed in enumerate(DEEDS):
                self.assertEqual(bench.redo(), deed)
                self.assertEqual((told(bench)[0], told(bench)[2:]), (states[at + 1][0], states[at + 1][2:]))
                self.assertEqual(bench.undone(), list(DEEDS[at + 1:]))
            self.nothing_left(bench.redo, bench)

    def test_an_empty_bench(self):
        bench = Bench()
        self.nothing_left(bench.undo, bench)
        self.nothing_left(bench.redo, bench)
        self.assertEqual(bench, Bench())

    def test_a_deed_lets_nothing_be_done_again(self):
        for way in (lambda bench: bench.do(("sign", "b")), lambda bench: bench.batch([("sign", "b")]), lambda bench: bench.sign("b"),
                    lambda bench: bench.do(("watch", 0))):
            bench = bench_of(*DEEDS[:3], ("sign", "a"))
            bench.undo()
            way(bench)
            self.assertEqual(bench.undone(), [])
            self.nothing_left(bench.redo, bench)

    def test_a_refused_one_does_not(self):
        bench = bench_of(*DEEDS[:4])
        bench.undo()
        bench.undo()
        for deed in (("sign", "A"), ("sign", "z"), ("odd",), ("leave", "zoe"), ("watch", 9), ("unsay", 0)):
            with self.assertRaises((ValueError, LookupError)):
                bench.do(deed)
            with self.assertRaises(Broken):
                bench.batch([("sign", "a"), deed])
            with self.assertRaises(BadNumber):
                bench.known(3)
        self.assertEqual(bench.undone(), [("sign", "a"), ("watch", 0)])
        bench.batch([])
        self.assertEqual([bench.redo(), bench.redo()], [("sign", "a"), ("watch", 0)])

    def test_asking_does_not(self):
        bench = bench_of(*DEEDS[:4])
        bench.undo()
        for ask in (bench.deeds, bench.scroll, bench.company, bench.confessions, bench.many, bench.lots, bench.notes, bench.twin):
            ask()
        bench.may(0)
        bench.known(1)
        self.assertEqual((bench.undone(), bench.redo()), ([("watch", 0)], ("watch", 0)))

    def test_numbers_of_confessions_behind_a_taking_back(self):
        bench = bench_of(*DEEDS[:3])
        self.assertEqual([bench.said(0, "cy"), bench.said(0, "cy")], [0, 1])
        bench.undo()
        self.assertEqual(bench.said(0, "zoe", so=False), 1)
        bench.undo()
        bench.undo()
        self.assertEqual(bench.confessions(), [])
        bench.redo()
        self.assertEqual(bench.confessions(), [(0, 0, "cy", True)])
        bench.do(("unsay", 0))
        self.assertEqual(bench.said(0, "eve"), 1)
        bench.undo()
        bench.undo()
        self.assertEqual(bench.confessions(), [(0, 0, "cy", True)])
        self.assertEqual(bench.said(0, "cy"), 1)

    def test_what_is_full_has_room_again(self):
        bench = bench_of(("come", CY), *[("sign", "a")] * 24)
        with self.assertRaises(Full):
            bench.sign("a")
        bench.undo()
        bench.sign("b")
        self.assertEqual(bench.scroll().signs()[-2:], ["a", "b"])


class Known(Checks):

    def test_of_each_count(self):
        bench = bench_of(*DEEDS)
        for count in range(len(DEEDS) + 1):
            ahead = state(bench)
            elder = bench.known(count)
            self.assertIsInstance(elder, Bench)
            self.assertEqual(told(elder), told(bench_of(*DEEDS[:count])))
            self.assertEqual((elder.kept(), elder.made(), elder.undone()), (0, 0, []))
            self.nothing_left(elder.redo, elder)
            self.assertEqual(state(bench), ahead)
            self.assertEqual((elder.lots(), elder.many()), (bench_of(*DEEDS[:count]).lots(), bench_of(*DEEDS[:count]).many()))
            for deed in reversed(DEEDS[:count]):
                self.assertEqual(elder.undo(), deed)
            self.nothing_left(elder.undo, elder)
            self.assertEqual(state(bench), ahead)

    def test_it_goes_its_own_way(self):
        bench = bench_of(*DEEDS[:5])
        elder = bench.known(5)
        elder.do(("said", 0, "eve"))
        bench.do(("said", 0, "cy"))
        self.assertEqual((elder.may(0), bench.may(0)), (["eve"], ["cy"]))
        self.assertEqual((elder.notes()[0][3], bench.notes()[0][3]), (("eve",), ("cy",)))

    def test_of_the_deeds_that_stand(self):
        bench = bench_of(*DEEDS[:5])
        bench.undo()
        self.assertEqual((bench.known(4), bench.known(4).undone()), (bench_of(*DEEDS[:4]), []))
        for count in (5, 6, -1, THIRTY, -THIRTY):
            ahead = state(bench)
            with self.assertRaises(BadNumber):
                bench.known(count)
            self.assertEqual(state(bench), ahead)


class Twins(Checks):

    def test_all_that_the_bench_has(self):
        bench = Bench()
        for deed in DEEDS:
            bench.do(deed)
            bench.twin().lots()
            self.assertEqual(state(bench.twin()), state(bench))
        bench.undo()
        bench.undo()
        bench.may(0)
        twin = bench.twin()
        self.assertIsInstance(twin, Bench)
        self.assertEqual((state(twin), twin), (state(bench), bench))
        self.assertEqual(twin.redo(), DEEDS[-2])

    def test_neither_turns_the_other(self):
        bench = bench_of(*DEEDS[:6])
        bench.undo()
        for one in (bench.twin(), bench):
            other = bench if one is not bench else bench.twin()
            for act in (
                lambda: one.redo(), lambda: one.undo(), lambda: one.sign("a"), lambda: one.undo(), lambda: one.said(0, "cy"),
                lambda: one.lots(), lambda: one.do(("watch", 1)), lambda: one.batch([("sign", "b"), ("unsay", 0)]),
                lambda: one.undo(), lambda: one.undo(), lambda: one.may(1),
            ):
                ahead = state(other)
                act()
                self.assertEqual(state(other), ahead)

    def test_a_twin_of_a_twin(self):
        bench = bench_of(*DEEDS[:6])
        twin = bench.twin().twin()
        bench.undo()
        self.assertEqual(twin, bench_of(*DEEDS[:6]))


class Batches(Checks):

    def broken(self, bench, deeds, at, kind):
        for row in (list(deeds), tuple(deeds)):
            ahead = state(bench)
            with self.assertRaises(Broken) as caught:
                bench.batch(row)
            self.assertEqual((type(caught.exception), caught.exception.at), (Broken, at))
            self.assertIs(type(caught.exception.__cause__), kind)
            self.assertEqual(state(bench), ahead)
        return caught.exception.__cause__

    def test_none_one_and_several(self):
        bench = Bench()
        self.assertEqual((bench.batch([]), bench.batch(()), bench), ([], [], Bench()))
        self.assertEqual(bench.batch([DEEDS[0]]), [None])
        self.assertEqual(bench.batch(deeds=DEEDS[1:8]), [None, None, None, None, 0, 1, None])
        self.assertEqual(bench, bench_of(*DEEDS[:8]))
        self.assertEqual(state(bench), state(bench_of(*DEEDS[:8])))

    def test_each_is_a_deed_of_its_own(self):
        bench = Bench()
        bench.batch(DEEDS)
        self.assertEqual(state(bench), state(bench_of(*DEEDS)))
        for deed in reversed(DEEDS):
            self.assertEqual(bench.undo(), deed)

    def test_one_is_refused(self):
        bench = bench_of(*DEEDS[:6])
        bench.undo()
        self.broken(bench, [("sign", "A")], 0, BadSign)
        self.broken(bench, [("sign", "a"), ("sign", "z")], 1, Unwritten)
        self.assertEqual(self.broken(bench, [("sign", "a"), ("sign", "b"), ("sign", "z"), ("odd",)], 2, Unwritten).at, 4)
        self.broken(bench, [("said", 0, "cy"), ("said", 0, "eve")], 1, Clash)
        self.broken(bench, [("said", 0, "cy"), ("unsay", 0), ("unsay", 0)], 2, NoSaid)
        self.broken(bench, [("leave", "cy"), ("leave", "cy")], 1, NoName)
        self.broken(bench, [("watch", 1), ("watch", 1)], 1, Taken)
        self.broken(bench, [("unwatch", 0), ("unwatch", 0)], 1, NoWatch)
        self.broken(bench, [("sign", "a"), ()], 1, BadDeed)
        self.broken(bench, [("come", ANN), ("come", BOB)], 1, Full)
        self.assertEqual(bench.redo(), DEEDS[5])

    def test_what_one_deed_makes_possible(self):
        bench = Bench()
        self.broken(bench, [("sign", "a"), ("come", CY)], 0, Unwritten)
        self.assertEqual(bench.batch([("come", CY), ("sign", "a"), ("said", 0, "cy"), ("unsay", 0), ("watch", 0)]), [None, None, 0, None, None])


if __name__ == "__main__":
    unittest.main()
