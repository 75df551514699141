"""Papers: the bar, two rows of lots that show that a name can't have written a sign."""

from whoseink.tellings import may, need_sign


def bar(scroll, at, name):
    """A pair (forth, live) of rows of lots, or None where the name may have written the sign; NoSign."""
    if name in may(scroll, at):
        return None
    return (scroll.forth(), scroll.live())


def is_bar(scroll, at, name, forth, live):
    """Whether the two rows of lots show that the name can't have written the sign; NoSign."""
    need_sign(scroll, at)
    if len(forth) != len(scroll) + 1 or len(live) != len(scroll) + 1:
        return False
    come = [{stand: True for stand in lot} for lot in forth]
    alive = [{stand: True for stand in lot} for lot in live]
    if scroll.company(0).begin() not in come[0]:
        return False
    if not all([stand in alive[-1] for stand in come[-1]]):
        return False
    return all([_holds(scroll, number, name if number == at else None, come, alive) for number in range(len(scroll))])


def _holds(scroll, at, barred, come, alive):
    """Whether the lots are closed at the sign, and no step by the barred name goes on there."""
    for stand in come[at]:
        for name, then in scroll.onward(at, stand):
            if then not in come[at + 1]:
                return False
            if then in alive[at + 1] and (stand not in alive[at] or name == barred):
                return False
    return True
