"""The desk: its answers to each kind of line."""

import unittest

from bench_by_hand import DEEDS, bench_of, state

from whoseink.bench import Bench
from whoseink.deeds import deed_text
from whoseink.desk import Desk
from whoseink.tellings import telling


class Checks(unittest.TestCase):

    def answers(self, desk, *rows):
        for line, expected in rows:
            with self.subTest(line):
                self.assertEqual(desk.say(line), expected)

    def leaves(self, desk, *rows):
        """Lines that are so answered, and change nothing."""
        for line, expected in rows:
            ahead = state(desk.bench())
            self.answers(desk, (line, expected))
            self.assertEqual(state(desk.bench()), ahead)

    def begun(self):
        desk = Desk()
        self.answers(
            desk, ("come ann/0a1;1b0/2/0", "done"), ("come bob/0a0/0/1", "done"), ("sign a", "done"), ("sign a", "done"), ("sign b", "done"),
        )
        return desk


class Deeds(Checks):

    def test_each_kind(self):
        desk, bench = Desk(), Bench()
        for deed in DEEDS:
            told = bench.do(deed)
            self.answers(desk, (deed_text(deed), "done" if told is None else f"done {told}"))
            self.assertEqual(state(desk.bench()), state(bench))

    def test_numbers_of_confessions(self):
        desk = self.begun()
        self.answers(
            desk, ("said 0 ann", "done 0"), ("denied 0 zoe", "done 1"), ("unsay 0", "done"), ("said 2 ann", "done 2"), ("undo", "said 2 ann"),
            ("denied 2 bob", "done 2"), *[("denied 2 bob", f"done {number}") for number in range(3, 12)],
        )

    def test_refusals(self):
        desk = self.begun()
        self.answers(desk, ("watch 0", "done"))
        self.leaves(
            desk, ("come ann/-/0/0", "no Taken"), ("leave cy", "no NoName"), ("change cy/-/0/0", "no NoName"), ("sign z", "no Unwritten"),
            ("said 3 ann", "no NoSign"), ("said -1 ann", "no NoSign"), ("denied " + "9" * 30 + " ann", "no NoSign"), ("said 0 cy", "no Clash"),
            ("unsay 0", "no NoSaid"), ("watch 3", "no NoSign"), ("watch 0", "no Taken"), ("unwatch 1", "no NoWatch"), ("may 3", "no NoSign"),
            ("may -1", "no NoSign"), ("telling 2", "no BadNumber"), ("telling -1", "no BadNumber"), ("redo", "no NothingLeft"),
        )
        self.answers(desk, ("come cy/-/0/0", "done"))
        self.leaves(desk, ("come di/-/0/0", "no Full"))
        self.leaves(Desk(), ("undo", "no NothingLeft"), ("redo", "no NothingLeft"), ("telling 1", "no BadNumber"), ("may 0", "no NoSign"))


class Questions(Checks):

    def test_undo_and_redo(self):
        desk = self.begun()
        self.answers(desk, ("said 0 ann", "done 0"), ("undo", "said 0 ann"), ("undo", "sign b"), ("redo", "sign b"), ("redo", "said 0 ann"))
        self.answers(desk, *[("undo", deed_text(deed)) for deed in reversed(desk.bench().deeds())])
        self.answers(desk, ("undo", "no NothingLeft"), ("redo", "come ann/0a1;1b0/2/0"), ("strip", "none"), ("names", "ann"))

    def test_may_and_many(self):
        desk = self.begun()
        self.answers(desk, ("may 0", "ann bob"), ("may 1", "ann bob"), ("may 2", "ann"), ("many", "2"))
        self.answers(Desk(), ("many", "1"))
        desk = Desk(table=bench_of(*DEEDS[:2], *[("sign", "a")] * 24))
        self.answers(desk, ("many", str(2 ** 24)))

    def test_telling(self):
        desk = self.begun()
        self.answers(desk, ("telling 0", "ann bob ann"), ("telling 1", "bob ann ann"))
        for number in (0, 1):
            self.assertEqual(desk.say(f"telling {number}"), " ".join(telling(desk.bench().scroll(), number=number)))
        self.answers(Desk(), ("telling 0", "none"))

    def test_names_and_strip(self):
        desk = self.begun()
        self.answers(desk, ("names", "ann bob"), ("strip", "aab"), ("leave ann", "done"), ("names", "bob"), ("leave bob", "done"),
                     ("names", "none"), ("strip", "aab"))
        self.answers(Desk(), ("names", "none"), ("strip", "none"))
        self.answers(Desk(table=bench_of(*DEEDS[:3])), ("names", "cy eve"), ("strip", "a"))

    def test_which_ones_make_lots(self):
        desk = self.begun()
        for line, makes in (("may 0", True), ("many", True), ("telling 0", False), ("names", False), ("strip", False), ("may 9", False),
                            ("many ", False)):
            self.answers(desk, ("undo", "sign b"), ("redo", "sign b"))
            made = desk.bench().made()
            desk.say(line)
            self.assertEqual((desk.bench().kept(), desk.bench().made() - made), (4, 4) if makes else (0, 0), line)

    def test_asking_changes_nothing_else(self):
        desk = self.begun()
        self.leaves(desk, ("may 0", "ann bob"), ("many", "2"), ("telling 1", "bob ann ann"), ("names", "ann bob"), ("strip", "aab"))
        for line in ("may 1", "many", "telling 0", "names", "strip"):
            self.assertEqual(desk.say(line), desk.say(line))


class Lines(Checks):

    def test_no_line(self):
        desk = self.begun()
        words = ("undo", "redo", "may 0", "many", "telling 0", "names", "strip", "sign a", "said 0 ann", "leave ann", "come cy/-/0/0")
        for line in words:
            self.leaves(desk, *[(odd, "no line") for odd in (
                line + " ", " " + line, line.upper(), line + "\n", "\n" + line, line + " 0 0 0", line + " ann ann ann", "/" + line,
                line.replace(" ", "  ") + " ", line + "s s",
            )])
            if " " in line:
                self.leaves(desk, *[(odd, "no line") for odd in (
                    line.replace(" ", "  "), line.replace(" ", "\n"), line.replace(" ", ""), line.split(" ")[0], line.split(" ")[0] + " ",
                )])

    def test_words_too_many_or_too_few(self):
        desk = self.begun()
        self.leaves(desk, *[(line, "no line") for line in (
            "", " ", "  ", "\n", "odd", "undo 1", "redo 1", "undo undo", "may", "may 0 1", "may a", "many 0", "many many", "telling",
            "telling 0 0", "names 0", "names ann", "strip 1", "strip a", "batch", "twin", "known 0", "notes", "lots", "said 0", "unsay",
            "sign", "watch", "come", "leave", "change", "denied ann", "said ann 0", "done", "no line", "none", "deeds",
        )])

    def test_needless_noughts(self):
        desk = self.begun()
        for odd in ("00", "-0", "01", "+0", "+1", "1.0", "-", "1" * 31, "-" + "0" * 30, "0x0", "1a", "a", "one"):
            for ahead, behind in (("may ", ""), ("telling ", ""), ("watch ", ""), ("unwatch ", ""), ("unsay ", ""), ("said ", " ann"),
                                  ("denied ", " ann")):
                self.leaves(desk, (ahead + odd + behind, "no line"))
        self.leaves(desk, ("may " + "1" * 30, "no NoSign"), ("telling " + "9" * 30, "no BadNumber"), ("telling -" + "9" * 30, "no BadNumber"))

    def test_names_signs_and_writers_that_are_none(self):
        desk = self.begun()
        self.leaves(desk, *[(line, "no line") for line in (
            "sign A", "sign ab", "sign 0", "leave Ann", "leave abcdefg", "said 0 Ann", "denied 0 a1", "come ann", "come ann/-/4/0",
            "come Cy/-/0/0", "change ann/0a0;0a0/0/0", "change ann//0/0",
        )])


class Benches(Checks):

    def test_of_that_very_bench(self):
        for bench in (Bench(), bench_of(*DEEDS[:3])):
            desk = Desk(table=bench)
            self.assertIs(desk.bench(), bench)
            desk.say("come finn/0a0/0/0")
            self.assertEqual(bench.company().names()[-1], "finn")
            bench.undo()
            self.answers(desk, ("redo", "come finn/0a0/0/0"))

    def test_of_a_new_one(self):
        for desk in (Desk(), Desk(table=None)):
            self.assertIsInstance(desk.bench(), Bench)
            self.assertEqual(desk.bench(), Bench())
            self.assertIs(desk.bench(), desk.bench())
        self.assertIsNot(Desk().bench(), Desk().bench())

    def test_two_desks_at_one_bench(self):
        bench = Bench()
        one, other = Desk(table=bench), Desk(table=bench)
        self.answers(one, ("come ann/0a0/0/0", "done"))
        self.answers(other, ("names", "ann"), ("sign a", "done"), ("said 0 ann", "done 0"))
        self.answers(one, ("strip", "a"), ("said 0 ann", "done 1"), ("undo", "said 0 ann"))
        self.answers(other, ("redo", "said 0 ann"), ("redo", "no NothingLeft"))
        self.assertEqual(bench.deeds(), [("come", ("ann", ((0, "a", 0),), 0, 0)), ("sign", "a"), ("said", 0, "ann"), ("said", 0, "ann")])

    def test_table_by_its_name_alone(self):
        with self.assertRaises(TypeError):
            Desk(Bench())
        self.assertEqual(Desk().say(line="strip"), "none")


if __name__ == "__main__":
    unittest.main()
