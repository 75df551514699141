"""What the document says of writing, kept by whole histories instead of stands, to check against.

A hand is a writer who stands in the company: [writer, its place, how many signs there
were in all when it last wrote or came]. The log names the hand of each sign.
"""

import itertools
import random

from whoseink.writers import read_writer


def company_row(text):
    """The writers of a text such as `ann/0a1/0/0 bob/-/0/0`."""
    return [read_writer(word) for word in text.split()]


class History:
    """What was written by whom, from the first sign on."""

    def __init__(self, writers):
        self.hands = [[writer, 0, 0] for writer in writers]
        self.log = []

    def turn(self, writers):
        """The company becomes another one."""
        elders = self.hands
        self.hands = []
        for writer in writers:
            kept = [hand for hand in elders if hand[0] == writer]
            self.hands.append(kept[0] if kept else [writer, 0, len(self.log)])

    def write(self, sign, name):
        """Whether the writer of that name can write the sign; it is written then."""
        for hand in self.hands:
            if hand[0][0] == name:
                return self._write(sign, hand)
        return False

    def stand(self):
        """The stand, as the document tells it."""
        places = tuple(hand[1] for hand in self.hands)
        waits = tuple(len(self.log) - hand[2] if self._minds(hand) else 0 for hand in self.hands)
        for at, hand in enumerate(self.hands):
            if self.log and self.log[-1] is hand and hand[0][3]:
                return (places, waits, (at, self._row_of(hand)))
        return (places, waits, (-1, 0))

    def _write(self, sign, hand):
        leads = [to for place, found, to in hand[0][1] if (place, found) == (hand[1], sign)]
        if not leads or (hand[0][3] and self._row_of(hand) == hand[0][3]):
            return False
        for other in self.hands:
            passed = len(self.log) + 1 - other[2]
            if other is not hand and self._minds(other) and passed > other[0][2]:
                return False
        self.log.append(hand)
        hand[1], hand[2] = leads[0], len(self.log)
        return True

    def _minds(self, hand):
        return hand[0][2] != 0 and any(place == hand[1] for place, _, _ in hand[0][1])

    def _row_of(self, hand):
        many = 0
        for written in reversed(self.log):
            if written is not hand:
                break
            many += 1
        return many


def stands_of_row(writers, steps, names):
    """The stands ahead of each sign, and behind all steps behind the last; None where one can't write.

    Of fewer names than signs, the last stand is the one at which the next sign is due.
    """
    history = History(writers)
    names = list(names)
    stands = []
    for step in steps:
        if not isinstance(step, str):
            history.turn(step)
            continue
        stands.append(history.stand())
        if len(stands) > len(names):
            return stands
        if not history.write(step, names[len(stands) - 1]):
            return None
    return stands + [history.stand()]


def keeps(said, names):
    """Whether the names keep all the confessions of the signs that they are of."""
    return all((names[at] == name) == so for at, name, so in said if at < len(names))


def all_names(writers, steps):
    """All names of the companies, and one that nobody bears."""
    rows = [writers] + [step for step in steps if not isinstance(step, str)]
    return sorted({writer[0] for row in rows for writer in row} | {"nobody"})


def forth_and_live(writers, steps, said):
    """Both rows of lots, by going through all rows of names."""
    many = len([step for step in steps if isinstance(step, str)])
    forth = [[] for _ in range(many + 1)]
    live = [[] for _ in range(many + 1)]
    for length in range(many + 1):
        for names in itertools.product(all_names(writers, steps), repeat=length):
            stands = stands_of_row(writers, steps, names)
            if stands is None or not keeps(said, names):
                continue
            forth[length].append(stands[length])
            if length == many:
                for at, stand in enumerate(stands):
                    live[at].append(stand)
    return [sorted(set(lot)) for lot in forth], [sorted(set(lot)) for lot in live]


def tellings_by_hand(writers, steps, said):
    """The rising list of the tellings, by going through the rows of names, sign by sign."""
    names = all_names(writers, steps)
    rows = [()]
    for _ in range(len([step for step in steps if isinstance(step, str)])):
        longer = [(*row, name) for row in rows for name in names]
        rows = [
            row for row in longer if keeps(said, row) and stands_of_row(writers, steps, row) is not None
        ]
    return rows


def stands_to(writers, signs, depth):
    """The stands to which rows of at most so many signs lead, with the least count of signs."""
    found = {}
    rows = [()]
    for length in range(depth + 1):
        going = []
        for row in rows:
            stands = stands_of_row(writers, [sign for sign, _ in row], [name for _, name in row])
            if stands is None:
                continue
            found.setdefault(stands[-1], length)
            going += [row + ((sign, writer[0]),) for sign in signs for writer in writers]
        rows = going
    return found


def some_writer(chance, name, signs="ab", density=0.5):
    """A writer that the chance makes."""
    arrows = [
        (place, sign, chance.randrange(3))
        for place in range(3) for sign in signs if chance.random() < density
    ]
    return (name, tuple(arrows), chance.choice((0, 0, 1, 2, 3)), chance.choice((0, 0, 1, 2, 3)))


def some_company(chance, most=3, density=0.5):
    """A row of writers that the chance makes."""
    names = chance.sample(["ann", "bob", "cy", "di"], chance.randrange(most + 1))
    return [some_writer(chance, name, density=density) for name in names]


def chances(many):
    """So many sources of chance, the same at each run."""
    return [random.Random(seed) for seed in range(many)]


def some_scroll(chance, most=5):
    """Writers, steps and confessions that the chance makes, of at most so many signs."""
    row, steps = some_company(chance, density=0.7), []
    latest = row
    for _ in range(chance.randrange(most + 1)):
        if chance.random() < 0.3:
            latest = chance.sample(latest, chance.randrange(len(latest) + 1))
            steps.append(latest)
        if chance.random() < 0.2:
            latest = some_company(chance, density=0.7)
            steps.append(latest)
        steps.append(chance.choice("aab"))
    if chance.random() < 0.3:
        steps.append(tuple(some_company(chance)))
    many = len([step for step in steps if isinstance(step, str)])
    names = all_names(row, steps)
    said = [
        (chance.randrange(many), chance.choice(names), chance.random() < 0.3)
        for _ in range(chance.randrange(4)) if many
    ]
    return row, steps, said
