"""Pages: a bench as a text, there and back."""

import unittest

from bench_by_hand import ANN, CY, DEEDS, bench_of, state

from whoseink.bench import Bench
from whoseink.errors import BadText, InkError
from whoseink.pages import page, read_page

PAGE = """come cy/0a0;0b0/0/0
come eve/0a0;0b0/0/0
sign a
watch 0
sign b
said 0 cy
denied 1 cy
unsay 0
change cy/0a0;0b0/1/1
come ann/0a1;1b0/2/0
leave eve
sign a
watch 2
unwatch 0
said 2 ann
unsay 1
leave ann
"""


class Checks(unittest.TestCase):

    def refused(self, text, at):
        with self.subTest(text):
            with self.assertRaises(BadText) as caught:
                read_page(text)
            self.assertEqual((type(caught.exception), caught.exception.at, caught.exception.word), (BadText, at, "BadText"))
            self.assertIsInstance(caught.exception, InkError)


class ThereAndBack(Checks):

    def test_page(self):
        bench = bench_of(*DEEDS)
        self.assertEqual((page(bench), page(bench=bench), str(bench)), (PAGE, PAGE, PAGE))

    def test_read(self):
        bench = read_page(PAGE)
        self.assertIsInstance(bench, Bench)
        self.assertEqual((bench, read_page(text=PAGE)), (bench_of(*DEEDS), bench))
        self.assertEqual(state(bench), state(bench_of(*DEEDS)))

    def test_each_count_of_deeds(self):
        for count in range(len(DEEDS) + 1):
            bench = bench_of(*DEEDS[:count])
            self.assertEqual(state(read_page(page(bench))), state(bench))
            self.assertEqual(page(read_page(page(bench))), page(bench))
            self.assertEqual(page(bench_of(*DEEDS).known(count)), page(bench))

    def test_the_empty_text(self):
        self.assertEqual((page(Bench()), read_page(""), state(read_page(""))), ("", Bench(), state(Bench())))

    def test_only_the_deeds_that_stand(self):
        bench = bench_of(*DEEDS)
        bench.undo()
        bench.undo()
        self.assertEqual(page(bench), "".join(row + "\n" for row in PAGE.split("\n")[:-3]))
        self.assertEqual((read_page(page(bench)), read_page(page(bench)).undone()), (bench, []))

    def test_it_changes_nothing(self):
        bench = bench_of(*DEEDS)
        bench.undo()
        ahead = state(bench)
        page(bench)
        self.assertEqual(state(bench), ahead)


class Refused(Checks):

    def test_rows_that_are_not_so_written(self):
        rows = PAGE.split("\n")[:-1]
        for at in range(len(rows)):
            for odd in ("", " ", "odd", rows[at] + " ", " " + rows[at], rows[at].replace(" ", "  "), rows[at].upper(), "undo",
                        "come ann/-/0/4", "sign A", "said 00 cy", "unsay -0", "leave Ann"):
                text = "".join(row + "\n" for row in [*rows[:at], odd, *rows[at + 1:]])
                self.refused(text, at)
                self.refused("".join(row + "\n" for row in [*rows[:at], odd, *rows[at:]]), at)

    def test_a_row_out_in_twice_or_exchanged(self):
        rows = PAGE.split("\n")[:-1]
        texts = []
        for at in range(len(rows)):
            texts.append(rows[:at] + rows[at + 1:])
            texts.append(rows[:at + 1] + rows[at:])
            for other in range(at):
                texts.append([*rows[:other], rows[at], *rows[other + 1:at], rows[other], *rows[at + 1:]])
        refused = 0
        for each in texts:
            bench, number = Bench(), None
            for at, row in enumerate(each):
                try:
                    bench.do(DEEDS[rows.index(row)])
                except (ValueError, LookupError):
                    number = at
                    break
            text = "".join(row + "\n" for row in each)
            if number is None:
                self.assertEqual(page(read_page(text)), text)
            else:
                self.refused(text, number)
                refused += 1
        self.assertTrue(100 < refused < len(texts), (refused, len(texts)))

    def test_deeds_that_are_refused(self):
        begun = "come cy/0a0;0b0/0/0\nsign a\n"
        for odd in ("sign z", "leave ann", "come cy/-/0/0", "change ann/-/0/0", "said 1 cy", "said 0 ann", "denied 0 cy", "unsay 0",
                    "watch 1", "watch -1", "unwatch 0", "unsay " + "9" * 30):
            self.refused(begun + odd + "\n", 2)
            self.refused(begun + odd + "\nodd\n", 2)
            self.refused("odd\n" + begun + odd + "\n", 0)

    def test_the_last_line_feed(self):
        rows = PAGE.split("\n")[:-1]
        for at in range(len(rows)):
            self.refused("\n".join(rows[:at + 1]), at)
        self.refused("odd", 0)
        self.refused(" ", 0)
        self.refused(PAGE + "odd", len(rows))
        # A row ahead of it that is none is the first one.
        self.refused("odd\n" + "sign a", 0)
        self.refused(PAGE + "sign z\nsign a", len(rows))

    def test_empty_rows(self):
        self.refused("\n", 0)
        self.refused("\n\n", 0)
        self.refused("\n" + PAGE, 0)
        self.refused(PAGE + "\n", len(DEEDS))
        self.refused("come cy/-/0/0\n\nleave cy\n", 1)

    def test_too_many(self):
        text = "come cy/0a0;0b0/0/0\n" + "sign a\n" * 24
        self.assertEqual(len(read_page(text)), 24)
        self.refused(text + "sign a\n", 25)
        text = page(bench_of(("come", CY), ("sign", "a"), *[("denied", 0, "ann")] * 24))
        self.refused(text + "denied 0 ann\n", 26)
        turns = "change cy/0a0;0b0/0/0\n" * 11
        self.refused("come cy/0a0;0b0/0/0\n" + turns + "leave cy\n", 12)

    def test_other_line_ends(self):
        for text in ("come cy/-/0/0\r\n", "come cy/-/0/0\n\r", "come cy/-/0/0\n leave cy\n"):
            self.refused(text, 0 if text.endswith("\r\n") else 1)

    def test_writers_in_a_page(self):
        bench = bench_of(("come", ANN), ("change", ("ann", (), 3, 3)))
        self.assertEqual(page(bench), "come ann/0a1;1b0/2/0\nchange ann/-/3/3\n")
        self.assertEqual(read_page(page(bench)).company(), bench.company())


if __name__ == "__main__":
    unittest.main()
