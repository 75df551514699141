"""Stamps: the kinds of signs that are stamped cheapest so that all is known soon."""

from itertools import combinations

from whoseink.delays import delay, is_doubt, need_never_still


def cheapest(company, prices, *, most=0):
    """("stamps", kinds, shown), or ("none", shown), where all the kinds together don't do.

    TooMany, then Still.
    """
    doubt = _doubt(company, _kinds(prices, list(range(len(prices)))), most)
    if doubt is not None:
        # Kinds that are left out of a lot part no two tellings more: this one shows it of each lot.
        return ("none", [doubt])
    found = []
    for cost, _, lot in _lots(prices):
        if any([_leaves_alike(lot, parting) for _, _, parting in found]):
            continue
        kinds = _kinds(prices, lot)
        doubt = _doubt(company, kinds, most)
        if doubt is None:
            return ("stamps", kinds, [shown for lesser, shown, _ in found if lesser < cost])
        found.append((cost, doubt, _parting(prices, doubt)))
    # Never come to: all the kinds together do.
    return ("none", [])


def is_cheapest(company, prices, kinds, shown, *, most=0):
    """Whether the delay is at most `most` with these kinds, and shown that it isn't with cheaper ones.

    TooMany, then Still.
    """
    need_never_still(company)
    rows = [(name, sign) for name, sign, _ in prices]
    lot = tuple([rows.index(kind) for kind in kinds if kind in rows])
    if len(lot) != len(kinds) or not all([one < other for one, other in zip(lot, lot[1:])]):
        return False
    if not all([is_doubt(company, strip, one, other, most) for strip, one, other in shown]):
        return False
    if _doubt(company, kinds, most) is not None:
        return False
    cost = _cost(prices, lot)
    partings = [_parting(prices, triple) for triple in shown]
    cheaper = [each for lesser, _, each in _lots(prices) if lesser < cost]
    return all([any([_leaves_alike(each, parting) for parting in partings]) for each in cheaper])


def _doubt(company, kinds, most):
    """Two tellings alike to the eye that differ just `most` signs ahead of their end, or None."""
    told = delay(company, stamps=kinds)
    if told[0] == "known":
        _, n, _, _, shown = told
        if n <= most:
            return None
        strip, one, other = shown
        return _cut(strip, one, other, len(strip) - n + 1 + most)
    _, at, lead, ring, one, other = told
    # Each round of the ring is one sign at least.
    rows = [row + row[len(lead):] * most for row in (lead + ring, one, other)]
    return _cut(rows[0], rows[1], rows[2], at + 1 + most)


def _cut(strip, one, other, many):
    return (strip[:many], one[:many], other[:many])


def _kinds(prices, lot):
    """The kinds that stand at these places of the prices."""
    return tuple([(prices[at][0], prices[at][1]) for at in lot])


def _cost(prices, lot):
    return sum([prices[at][2] for at in lot])


def _lots(prices):
    """Each lot of places in the prices, as (sum, how many, places), the one to be taken first ahead."""
    return sorted([
        (_cost(prices, lot), many, lot)
        for many in range(len(prices) + 1) for lot in combinations(range(len(prices)), many)
    ])


def _parting(prices, triple):
    """The places in the prices of the kinds by which the eye tells the two tellings apart."""
    strip, one, other = triple
    parting = {}
    for sign, name, second in zip(strip, one, other):
        if name != second:
            parting[(name, sign)] = True
            parting[(second, sign)] = True
    return [at for at, (name, sign, _) in enumerate(prices) if (name, sign) in parting]


def _leaves_alike(lot, parting):
    return not any([at in parting for at in lot])
