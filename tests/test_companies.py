"""Companies: their writers, their stands and steps, and how a stand is carried."""

import itertools
import unittest

from by_hand import (
    History, all_names, chances, company_row, some_company, some_writer, stands_of_row, stands_to,
)

from whoseink.companies import MOST_STANDS, MOST_WRITERS, Company, carried, lot_behind
from whoseink.errors import BadWriter, Full, Taken, TooMany
from whoseink.writers import read_writer, writer_text

ANN = read_writer("ann/0a1;1b0/2/0")
BOB = read_writer("bob/0a0/0/1")
CY = read_writer("cy/0a1;0b1;1a0/1/2")
DI = read_writer("di/-/0/0")
NONE = ("bob", (), 0, 4)
SIXTY = "x/0b2;2a2/3/2 y/0b2/3/3 z/0b1;1a2;2a0/3/3"
SIXTY_ONE = "x/0a1;1a2/1/0 y/0a2;1a0;2a1/2/3 z/0a2;0b0;2a1;2b1/0/1"
SIXTY_NEVER_STILL = "x/0a0;2a1/3/3 y/0b1;1b2;2b2/0/1 z/0b1;1a0/2/3"
SIXTY_ONE_NEVER_STILL = "x/0a2;1a0;2b1/0/2 y/0b2/3/3 z/0a0;0b1;1b0/0/3"
ONE_A = "/0a0/0/0"


def company(text):
    return Company(company_row(text))


class Making(unittest.TestCase):

    def refusal(self, kind, writers):
        with self.assertRaises(kind) as caught:
            Company(writers)
        self.assertIs(type(caught.exception), kind)
        return caught.exception

    def test_bounds(self):
        self.assertEqual((MOST_WRITERS, MOST_STANDS), (3, 60))

    def test_lists_and_tuples(self):
        for row in ([ANN, BOB, CY], (ANN, BOB, CY)):
            made = Company(row)
            self.assertEqual(made.writers(), [ANN, BOB, CY])
            self.assertEqual(made.names(), ["ann", "bob", "cy"])
        self.assertEqual(Company(writers=(BOB, ANN)).names(), ["bob", "ann"])

    def test_nobody(self):
        for made in (Company(), Company([]), Company(())):
            self.assertEqual((made.writers(), made.names(), made.begin()), ([], [], ((), (), (-1, 0))))
            self.assertEqual((made.steps(made.begin()), made.stands()), ([], [((), (), (-1, 0))]))
            self.assertEqual((made.still(), made.leaves(()), made.leaves(["a"])), ((), True, False))

    def test_bad_writer_tells_the_first(self):
        for row, at in (
            ([NONE], 0), ([ANN, NONE], 1), ([ANN, NONE, NONE], 1), ([()], 0), ([ANN, BOB, CY, ("x",)], 3),
            ([ANN, BOB, ANN + (0,)], 2), ([("ann", ((0, "a", 3),), 0, 0), NONE], 0),
        ):
            with self.subTest(row):
                self.assertEqual(self.refusal(BadWriter, row).at, at)

    def test_taken_tells_the_first_name_that_stands_again(self):
        other_ann = ("ann", (), 0, 0)
        for row, name in (
            ([ANN, ANN], "ann"), ([ANN, other_ann], "ann"), ([BOB, ANN, other_ann], "ann"),
            ([ANN, BOB, BOB], "bob"), ([ANN, BOB, BOB, ANN], "bob"), ([ANN, BOB, CY, BOB, ANN], "bob"),
        ):
            with self.subTest(row):
                self.assertEqual(self.refusal(Taken, row).name, name)

    def test_full(self):
        self.assertEqual(len(Company([ANN, BOB, CY])), 3)
        self.refusal(Full, [ANN, BOB, CY, DI])
        self.refusal(Full, (ANN, BOB, CY, DI, read_writer("eve/-/0/0")))

    def test_which_goes_first(self):
        self.assertEqual(self.refusal(BadWriter, [ANN, ANN, BOB, CY, NONE]).at, 4)
        self.assertEqual(self.refusal(BadWriter, [ANN, ANN, NONE]).at, 2)
        self.assertEqual(self.refusal(BadWriter, [ANN, BOB, CY, DI, NONE]).at, 4)
        self.assertEqual(self.refusal(Taken, [ANN, BOB, CY, DI, ANN]).name, "ann")

    def test_the_handed_row_is_neither_changed_nor_kept(self):
        row = [ANN, BOB]
        made = Company(row)
        self.assertEqual(row, [ANN, BOB])
        row.append(CY)
        row[0] = DI
        self.assertEqual(made.writers(), [ANN, BOB])
        self.assertEqual(made.stands(), Company([ANN, BOB]).stands())

    def test_told_lists_are_new_ones(self):
        made = Company([ANN, BOB, CY])
        begin = made.begin()
        for ask in (made.writers, made.names, made.stands, lambda: made.steps(begin)):
            first = ask()
            kept = list(first)
            first.reverse()
            first.append("odd")
            self.assertEqual(ask(), kept)
            ask().clear()
            self.assertEqual(ask(), kept)


class Signs(unittest.TestCase):
    """==, len, truth, repr, str."""

    def test_alike_are_the_same_writers_in_order(self):
        self.assertTrue(Company([ANN, BOB]) == Company((ANN, BOB)))
        self.assertFalse(Company([ANN, BOB]) != Company((ANN, BOB)))
        self.assertTrue(Company() == Company([]))
        self.assertFalse(Company([ANN, BOB]) == Company([BOB, ANN]))
        self.assertTrue(Company([ANN, BOB]) != Company([BOB, ANN]))
        self.assertFalse(Company([ANN]) == Company([ANN, BOB]))
        self.assertFalse(Company([ANN]) == Company([("ann", ANN[1], 2, 1)]))

    def test_alike_to_nothing_else(self):
        for made in (Company(), Company([ANN])):
            for other in (None, 0, "", "ann", str(made), made.writers(), tuple(made.writers()), made.begin()):
                with self.subTest(other):
                    self.assertIs(made == other, False)
                    self.assertIs(made != other, True)

    def test_asking_does_not_part_them(self):
        one, other = Company([ANN, CY]), Company([ANN, CY])
        one.stands()
        self.assertEqual(one, other)

    def test_len_and_truth(self):
        for many in range(4):
            made = Company([ANN, BOB, CY][:many])
            self.assertEqual((len(made), bool(made)), (many, many > 0))

    def test_repr(self):
        for many in range(4):
            self.assertEqual(repr(Company([ANN, BOB, CY][:many])), f"Company({many} writers)")

    def test_str(self):
        self.assertEqual(str(Company()), "")
        self.assertEqual(str(Company([ANN])), "ann/0a1;1b0/2/0")
        self.assertEqual(str(Company([DI, ANN, BOB])), "di/-/0/0 ann/0a1;1b0/2/0 bob/0a0/0/1")


class Steps(unittest.TestCase):

    def steps(self, text, stand):
        return company(text).steps(stand)

    def test_one_writer(self):
        self.assertEqual(
            self.steps("ann/0a1;0b0;1b0/0/0", ((0,), (0,), (-1, 0))),
            [("a", "ann", ((1,), (0,), (-1, 0))), ("b", "ann", ((0,), (0,), (-1, 0)))],
        )

    def test_they_rise_by_sign_and_then_by_the_order_of_the_writers(self):
        told = self.steps("zoe/0a0;0c0/0/0 ann/0a0;0b0/0/0 mo/0a0;0b0;0c0/0/0", ((0,) * 3, (0,) * 3, (-1, 0)))
        self.assertEqual(
            [(sign, name) for sign, name, _ in told],
            [("a", "zoe"), ("a", "ann"), ("a", "mo"), ("b", "ann"), ("b", "mo"), ("c", "zoe"), ("c", "mo")],
        )

    def test_a_wait(self):
        text = "ann/0a0/2/0 bob/0b0/0/0"
        begin = ((0, 0), (0, 0), (-1, 0))
        once, twice = ((0, 0), (1, 0), (-1, 0)), ((0, 0), (2, 0), (-1, 0))
        self.assertEqual(self.steps(text, begin), [("a", "ann", begin), ("b", "bob", once)])
        self.assertEqual(self.steps(text, once), [("a", "ann", begin), ("b", "bob", twice)])
        self.assertEqual(self.steps(text, twice), [("a", "ann", begin)])

    def test_two_whose_patience_is_due_at_once(self):
        text = "ann/0a0/1/0 bob/0a0/1/0 cy/0c0/0/0"
        due = ((0, 0, 0), (1, 1, 0), (-1, 0))
        self.assertEqual(self.steps(text, ((0, 0, 0), (0, 0, 0), (-1, 0)))[2], ("c", "cy", due))
        self.assertEqual(self.steps(text, due), [])
        self.assertEqual(company(text).still(), ("c",))

    def test_patience_that_passes_the_other_one_over(self):
        # Whom ann's patience calls is ann herself; bob's wait goes on.
        self.assertEqual(
            self.steps("ann/0a0/1/0 bob/0b0/3/0", ((0, 0), (1, 1), (-1, 0))),
            [("a", "ann", ((0, 0), (0, 2), (-1, 0)))],
        )

    def test_the_patience_of_one_who_is_done_calls_nobody(self):
        text = "ann/0a1/1/0 bob/0b0/0/0"
        behind = ((1, 0), (0, 0), (-1, 0))
        self.assertEqual(self.steps(text, ((0, 0), (1, 0), (-1, 0))), [("a", "ann", behind)])
        self.assertEqual(self.steps(text, behind), [("b", "bob", behind)])

    def test_patience_of_one_who_cannot_write_for_its_cap(self):
        # Ann alone may write next, and has written her one sign in a row.
        text = "ann/0a0/1/1 bob/0b0/1/0"
        first = ((0, 0), (0, 1), (0, 1))
        self.assertEqual(self.steps(text, ((0, 0), (0, 0), (-1, 0)))[0], ("a", "ann", first))
        self.assertEqual(self.steps(text, first), [("b", "bob", ((0, 0), (1, 0), (-1, 0)))])
        self.assertEqual(self.steps(text, ((0, 0), (1, 0), (0, 1))), [])

    def test_a_run(self):
        text = "ann/0a0/0/2 bob/0b0/0/0 cy/0c0/0/3"
        begin = ((0,) * 3, (0,) * 3, (-1, 0))

        def run(*count):
            return (begin[0], begin[1], count)

        self.assertEqual(
            self.steps(text, begin), [("a", "ann", run(0, 1)), ("b", "bob", begin), ("c", "cy", run(2, 1))],
        )
        self.assertEqual(
            self.steps(text, run(0, 1)), [("a", "ann", run(0, 2)), ("b", "bob", begin), ("c", "cy", run(2, 1))],
        )
        self.assertEqual(self.steps(text, run(0, 2)), [("b", "bob", begin), ("c", "cy", run(2, 1))])
        self.assertEqual(
            self.steps(text, run(2, 2)), [("a", "ann", run(0, 1)), ("b", "bob", begin), ("c", "cy", run(2, 3))],
        )
        self.assertEqual(self.steps(text, run(2, 3)), [("a", "ann", run(0, 1)), ("b", "bob", begin)])

    def test_a_cap_holds_through_places(self):
        told = company("ann/0a1;1b2;2c0/0/2")
        self.assertEqual([told.leaves("a"), told.leaves("ab"), told.leaves("abc")], [True, True, False])
        self.assertEqual(told.stands(), [((0,), (0,), (-1, 0)), ((1,), (0,), (0, 1)), ((2,), (0,), (0, 2))])

    def test_stands_to_which_no_step_leads(self):
        text = "ann/0a1/2/0 bob/0b0/0/3"
        for stand, expected in (
            # A wait beyond the patience calls as one that is due.
            (((0, 0), (3, 0), (-1, 0)), [("a", "ann", ((1, 0), (0, 0), (-1, 0)))]),
            # A wait of one without a patience is 0 behind the step, and calls nobody.
            (((0, 0), (1, 3), (-1, 0)),
             [("a", "ann", ((1, 0), (0, 0), (-1, 0))), ("b", "bob", ((0, 0), (2, 0), (1, 1)))]),
            # So is one of a writer who is done, at a place to which no arrow leads, too.
            (((2, 0), (3, 0), (1, 2)), [("b", "bob", ((2, 0), (0, 0), (1, 3)))]),
            (((1, 0), (2, 2), (1, 1)), [("b", "bob", ((1, 0), (0, 0), (1, 2)))]),
            (((2, 1), (1, 1), (-1, 0)), []),
            (((1, 2), (0, 0), (1, 3)), []),
            (((0, 0), (0, 0), (1, 3)), [("a", "ann", ((1, 0), (0, 0), (-1, 0)))]),
        ):
            with self.subTest(stand):
                self.assertEqual(self.steps(text, stand), expected)
                self.assertEqual(company(text).steps(stand=stand), expected)

    def test_against_whole_histories(self):
        for chance in chances(60):
            row = some_company(chance)
            history = []
            for _ in range(8):
                self.steps_are_those_by_hand(row, history)
                told = Company(row).steps(self.stand_behind(row, history))
                if not told:
                    break
                history.append(chance.choice(told)[:2])

    def stand_behind(self, row, history):
        stands = stands_of_row(row, [sign for sign, _ in history], [name for _, name in history])
        return stands[-1]

    def steps_are_those_by_hand(self, row, history):
        expected = []
        for sign, writer in itertools.product("abc", row):
            done = History(row)
            self.assertTrue(all([done.write(*step) for step in history]))
            if done.write(sign, writer[0]):
                expected.append((sign, writer[0], done.stand()))
        self.assertEqual(Company(row).steps(self.stand_behind(row, history)), expected)


class Stands(unittest.TestCase):

    def test_begin(self):
        for many in range(4):
            made = Company([ANN, BOB, CY][:many])
            self.assertEqual(made.begin(), ((0,) * many, (0,) * many, (-1, 0)))

    def test_by_hand(self):
        self.assertEqual(company("ann/1a2/2/3").stands(), [((0,), (0,), (-1, 0))])
        self.assertEqual(
            company("ann/0a0/1/0 bob/0b1/0/1").stands(),
            [((0, 0), (0, 0), (-1, 0)), ((0, 1), (0, 0), (-1, 0)), ((0, 1), (1, 0), (1, 1))],
        )

    def test_at_most_sixty(self):
        for text in (SIXTY, SIXTY_NEVER_STILL):
            made = company(text)
            told = made.stands()
            self.assertEqual((len(told), told), (60, sorted(set(told))))
            self.assertEqual(made.stands(), told)

    def test_too_many(self):
        for text in (SIXTY_ONE, SIXTY_ONE_NEVER_STILL, "x/0a1;1a2;2a0/3/3 y/0a1;1a2;2a0/3/3 z/0a1;1a2;2a0/3/3"):
            for ask in (company(text).stands, company(text).still):
                for _ in range(2):
                    with self.assertRaises(TooMany) as caught:
                        ask()
                    self.assertEqual(caught.exception.most, 60)

    def test_against_whole_histories(self):
        compared = 0
        for chance in chances(80):
            row = some_company(chance, most=2)
            found = stands_to(row, "ab", 7)
            if max(found.values()) < 7:
                compared += 1
                self.assertEqual(Company(row).stands(), sorted(found))
        self.assertGreater(compared, 40)

    def test_too_many_keeps_nobody_from_writing(self):
        made = company(SIXTY_ONE)
        with self.assertRaises(TooMany):
            made.stands()
        self.assertIs(made.leaves(["a", "a"]), True)
        self.assertEqual(len(made.steps(made.begin())), 4)


class Leaving(unittest.TestCase):

    def test_by_hand(self):
        made = company("ann/0a1;1b0/0/0 bob/0a0/0/1")
        for strip, expected in (
            ("", True), ("a", True), ("b", False), ("aa", True), ("ab", True), ("aab", True), ("aaa", True),
            ("aaaa", False), ("abb", False), ("c", False), ("abab", True), ("abaaa", True), ("abaaaa", False),
        ):
            for row in (list(strip), tuple(strip)):
                with self.subTest(strip):
                    self.assertIs(made.leaves(row), expected)
        self.assertIs(made.leaves(strip=["a"]), True)

    def test_lots_behind_a_sign(self):
        made = company("cy/0a2;0b0;2a1/0/0 ann/0a1/0/0")
        first = lot_behind(made, [made.begin()], "a")
        self.assertEqual(first, [((0, 1), (0, 0), (-1, 0)), ((2, 0), (0, 0), (-1, 0))])
        self.assertEqual(lot_behind(made, first, "a"), [((1, 0), (0, 0), (-1, 0)), ((2, 1), (0, 0), (-1, 0))])
        self.assertEqual((lot_behind(made, first, "c"), lot_behind(made, [], "a")), ([], []))

    def test_long_strips(self):
        made = company("ann/0a1;1b0/2/2 bob/0a0;0b1;1a0/0/1 cy/0b0/3/0")
        self.assertIs(made.leaves(["a", "b"] * 300), True)
        self.assertIs(made.leaves(["a", "b"] * 299 + ["a", "z"]), False)

    def test_the_strip_stays(self):
        strip = ["a", "a", "z"]
        company("ann/0a0/0/0").leaves(strip)
        self.assertEqual(strip, ["a", "a", "z"])

    def test_against_all_rows_of_names(self):
        for chance in chances(40):
            row = some_company(chance)
            for strip in itertools.product("ab", repeat=4):
                names = itertools.product(all_names(row, []), repeat=4)
                expected = any(stands_of_row(row, strip, each) is not None for each in names)
                self.assertIs(Company(row).leaves(strip), expected)


class StillAt(unittest.TestCase):

    def test_the_beginning(self):
        for text in ("", "ann/-/0/0", "ann/-/3/3 bob/-/1/1", "ann/1a0/2/0"):
            self.assertEqual(company(text).still(), ())

    def test_never(self):
        for text in ("ann" + ONE_A, "ann" + ONE_A + " bob/-/3/1", "ann/0a1;1b0/2/0 bob/0a0/0/1",
                     SIXTY_NEVER_STILL):
            self.assertIsNone(company(text).still())

    def test_a_shortest_strip(self):
        for text, expected in (
            ("ann/0a1/0/0", ("a",)),
            ("ann/0a1;1b2/0/0", ("a", "b")),
            ("ann/0a1;0b2;1a0/0/0", ("b",)),
            ("ann/0a0/0/2", ("a", "a")),
            ("ann/0a0/0/3", ("a", "a", "a")),
            ("ann/0a0/1/0 bob/0a0/1/0 cy/0c0/0/0", ("c",)),
            ("ann/0a1/0/0 bob/0b1/0/0", None),
        ):
            told = company(text).still()
            with self.subTest(text):
                self.assertIsInstance(told, tuple)
                self.assertIn(told, [expected] if expected else [("a", "b"), ("b", "a")])
                self.assertEqual(company(text).still(), told)

    def test_of_sixty_stands(self):
        self.is_shortest(company_row(SIXTY), 3, 60)
        self.is_shortest(company_row("x/0a1;1a2;1b1/3/2 y/0a0;1b0;2a2/0/3 z/0a1;0b2;1a2;1b2/0/0"), 6, 60)

    def is_shortest(self, row, length, many):
        made = Company(row)
        self.assertEqual((len(made.still()), len(made.stands())), (length, many))
        self.assertEqual(self.shortest_by_strips(made, length), length)
        lot = [made.begin()]
        for sign in made.still():
            lot = [then for stand in lot for found, _, then in made.steps(stand) if found == sign]
        self.assertTrue(any(made.steps(stand) == [] for stand in lot))

    def shortest_by_strips(self, made, most):
        """The length of a shortest strip to a still stand, all of them gone through."""
        lot = [made.begin()]
        for length in range(most + 1):
            if any(made.steps(stand) == [] for stand in lot):
                return length
            lot = [then for stand in lot for _, _, then in made.steps(stand)]
        return None

    def test_against_all_strips(self):
        found = 0
        for chance in chances(60):
            made = Company(some_company(chance, density=0.6))
            try:
                told = made.still()
            except TooMany:
                continue
            if told is None:
                self.assertTrue(all(made.steps(stand) for stand in made.stands()))
            elif len(told) < 5:
                found += 1
                self.assertEqual(self.shortest_by_strips(made, 5), len(told))
        self.assertGreater(found, 10)


class Carried(unittest.TestCase):

    def carry(self, one, other, stand):
        return carried(company(one), company(other), stand)

    def test_the_same_company(self):
        text = "ann/0a1;1b0/2/0 bob/0a0/0/2"
        stand = ((1, 0), (2, 0), (1, 2))
        self.assertEqual(self.carry(text, text, stand), stand)
        self.assertEqual(carried(one=company(text), other=company(text), stand=stand), stand)

    def test_kept_out_and_anew(self):
        ann, bob, cy = "ann/0a1;1b0/2/0", "bob/0a2;2a0/3/3", "cy/0b1;1b0/1/2"
        stand = ((1, 2, 0), (2, 1, 0), (1, 2))
        for text, expected in (
            (f"{ann} {bob} {cy}", stand),
            (f"{ann} {bob}", ((1, 2), (2, 1), (1, 2))),
            (f"{ann} {cy}", ((1, 0), (2, 0), (-1, 0))),
            (f"{bob} {cy}", ((2, 0), (1, 0), (0, 2))),
            (f"{cy} {bob} {ann}", ((0, 2, 1), (0, 1, 2), (1, 2))),
            (f"{cy} {ann} {bob}", ((0, 1, 2), (0, 2, 1), (2, 2))),
            (f"{bob}", ((2,), (1,), (0, 2))),
            ("", ((), (), (-1, 0))),
            (f"di/0a0/3/3 {bob}", ((0, 2), (0, 1), (1, 2))),
            (f"{ann} di/0a0/3/3 {cy}", ((1, 0, 0), (2, 0, 0), (-1, 0))),
        ):
            with self.subTest(text):
                self.assertEqual(self.carry(f"{ann} {bob} {cy}", text, stand), expected)

    def test_exchanged_by_a_number(self):
        elder = "ann/0a1;1b0/2/0 bob/0a0/0/2"
        stand = ((1, 0), (1, 0), (1, 1))
        for text, expected in (
            ("ann/0a1;1b0/3/0 bob/0a0/0/2", ((0, 0), (0, 0), (1, 1))),
            ("ann/0a1;1b0/2/1 bob/0a0/0/2", ((0, 0), (0, 0), (1, 1))),
            ("ann/0a1;1b1/2/0 bob/0a0/0/2", ((0, 0), (0, 0), (1, 1))),
            ("ann/0a1;1b0/2/0 bob/0a0/0/3", ((1, 0), (1, 0), (-1, 0))),
            ("ann/0a1;1b0/2/0 bobo/0a0/0/2", ((1, 0), (1, 0), (-1, 0))),
            ("ann/0a1;1b0/2/0 bob/0b0/0/2", ((1, 0), (1, 0), (-1, 0))),
        ):
            with self.subTest(text):
                self.assertEqual(self.carry(elder, text, stand), expected)

    def test_no_run_stays_none(self):
        elder, stand = "ann/0a1;1b0/2/0 bob/0a0/0/2", ((1, 0), (1, 0), (-1, 0))
        for text in (elder, "bob/0a0/0/2", "cy/-/0/0 ann/0a1;1b0/2/0", "cy/-/0/1", ""):
            self.assertEqual(self.carry(elder, text, stand)[2], (-1, 0))

    def test_from_nobody(self):
        self.assertEqual(
            self.carry("", "ann/0a1;1b0/2/0 bob/0a0/0/2", ((), (), (-1, 0))), ((0, 0), (0, 0), (-1, 0)),
        )

    def test_stands_to_which_no_step_leads(self):
        self.assertEqual(
            self.carry("ann/0a1/0/0 bob/-/2/0", "bob/-/2/0 ann/0a1/0/0", ((2, 1), (3, 2), (-1, 0))),
            ((1, 2), (2, 3), (-1, 0)),
        )

    def test_nothing_turns_by_it(self):
        one, other = company("ann/0a1/2/0 bob/0a0/0/2"), company("bob/0a0/0/2")
        stand = ((1, 0), (0, 0), (1, 1))
        self.assertEqual(carried(one, other, stand), carried(one, other, stand))
        self.assertEqual((stand, len(one), len(other)), (((1, 0), (0, 0), (1, 1)), 2, 1))

    def test_against_whole_histories(self):
        for chance in chances(150):
            row = some_company(chance)
            history, stand = History(row), Company(row).begin()
            for _ in range(5):
                told = Company(row).steps(stand)
                if told:
                    sign, name, stand = chance.choice(told)
                    self.assertTrue(history.write(sign, name))
                turned = self.turned(chance, row)
                history.turn(turned)
                stand = carried(Company(row), Company(turned), stand)
                row = turned
                self.assertEqual(stand, history.stand(), [writer_text(writer) for writer in row])

    def turned(self, chance, row):
        """Some of the row's writers in some order, and sometimes one more."""
        kept = chance.sample(row, chance.randrange(len(row) + 1))
        if len(kept) < 3 and chance.random() < 0.6:
            kept.insert(chance.randrange(len(kept) + 1), some_writer(chance, "eve"))
        return kept if len({writer[0] for writer in kept}) == len(kept) else row


if __name__ == "__main__":
    unittest.main()
