"""Choices: the cheapest kinds of some boxes with which hosts hear one another as wished, and not where it is banned."""

from lentdoors.base.forms import OPEN, holds
from lentdoors.base.kinds import is_kind, is_name, is_number
from lentdoors.base.nets import check_net
from lentdoors.errors import InvalidOperation
from lentdoors.know.course import Course, talk_for
from lentdoors.know.hearing import is_barring_table, is_hearing_talk
from lentdoors.know.tables import tables_of
from lentdoors.wide.openings import MAX_OFFERED, boxes_of, is_as_loose_lot, is_lot, lots_of, with_lot
from lentdoors.wide.papers import are_talks_for, check_wishes, is_bar


def are_prices(value):
    """Whether the value is a nonempty dict from kinds to prices."""
    return isinstance(value, dict) and len(value) > 0 and all([is_kind(one) and is_number(value[one]) for one in value])


def is_price_list(value):
    """Whether the value is a price list for any net."""
    if not isinstance(value, dict) or not 1 <= len(value) <= MAX_OFFERED:
        return False
    return all([is_name(box) and box != OPEN and are_prices(value[box]) for box in value])


def offer_of(prices):
    """The offer of a price list."""
    return {box: tuple(sorted(prices[box])) for box in sorted(prices)}


def is_lot_of(prices, value):
    """Whether the value is a lot of the offer of a price list."""
    if not is_lot(value) or boxes_of(value) != sorted(prices):
        return False
    return all([kind in prices[box] for box, kind in value])


def price(prices, lot):
    """The sum of the prices of the kinds of a lot."""
    return sum([prices[box][kind] for box, kind in lot])


def by_rank(prices):
    """The list of all lots of a price list by their prices; refused if there are too many."""
    ranks = sorted([(price(prices, lot), lot) for lot in lots_of(offer_of(prices))])
    return [lot for _, lot in ranks]


def check_prices(net, value):
    """Raise the errors for a net, and for what is no price list for it."""
    check_net(net)
    if not is_price_list(value) or not all([holds(net.boxes, box) for box in value]):
        raise InvalidOperation("no price list for the net")


def is_excluded(reasons, lot):
    """Whether one of these reasons excludes a lot of the same boxes."""
    return any([excludes_lot(reason, lot) for reason in reasons])


def excludes_lot(reason, lot):
    """Whether a reason excludes a lot of the same boxes."""
    if reason[0] == "unheard":
        return is_as_loose_lot(reason[1], lot)
    return is_as_loose_lot(lot, reason[1])


def reason_against(course, lot, wishes, bans):
    """A reason that excludes this lot, by the course of its net, or None if the lot suits."""
    for wish in wishes:
        if wish not in course.first_heard:
            return ("unheard", lot, wish, tables_of(course)[-1])
    for ban in bans:
        if ban in course.first_heard:
            return ("heard", lot, ban, talk_for(course, course.first_heard[ban]))
    return None


def is_reason(net, prices, wishes, bans, value):
    """Whether the value is a reason that excludes lots of the offer of the prices."""
    if not isinstance(value, tuple) or len(value) != 4 or not is_lot_of(prices, value[1]):
        return False
    word, lot, pair, shown = value
    if word == "unheard":
        return is_bar(with_lot(net, lot), wishes, pair, shown)
    return word == "heard" and pair in bans and is_hearing_talk(with_lot(net, lot), pair[0], pair[1], shown)


def are_reasons(net, prices, wishes, bans, value, before):
    """Whether the value is a tuple of reasons that exclude all these lots, each one some that earlier ones do not."""
    if not isinstance(value, tuple):
        return False
    left = before
    for reason in value:
        if not is_reason(net, prices, wishes, bans, reason):
            return False
        kept = [lot for lot in left if not excludes_lot(reason, lot)]
        if len(kept) == len(left):
            return False
        left = kept
    return not left


def are_tables_for(net, bans, value):
    """Whether the value is a tuple of tables which show, in their order, that none of the bans is broken."""
    if not isinstance(value, tuple) or len(value) != len(bans):
        return False
    return all([is_barring_table(net, host, other, value[at]) for at, (host, other) in enumerate(bans)])


def is_none_paper(value):
    """Whether the value has the form of a choice paper that tells of no lot."""
    return isinstance(value, tuple) and len(value) == 2 and value[0] == "none"


def is_lot_paper(prices, value):
    """Whether the value has the form of a choice paper that tells of a lot."""
    return isinstance(value, tuple) and len(value) == 5 and value[0] == "lot" and is_lot_of(prices, value[1])


def price_of(prices, lot):
    """The price of a lot."""
    if not is_price_list(prices) or not is_lot_of(prices, lot):
        raise InvalidOperation("no price list, or no lot of its offer")
    return price(prices, lot)


def ranked(net, prices):
    """All lots by their prices, those of equal price in ascending order."""
    check_prices(net, prices)
    for lot in by_rank(prices):
        yield lot


def choice_paper(net, prices, wishes, bans):
    """The first lot by rank that suits wishes and bans, if one does, with what shows that, and that it is the first."""
    check_prices(net, prices)
    check_wishes(net, wishes)
    check_wishes(net, bans)
    reasons = []
    for lot in by_rank(prices):
        if not is_excluded(reasons, lot):
            course = Course(with_lot(net, lot), tuple(net))
            reason = reason_against(course, lot, wishes, bans)
            if reason is None:
                talks = tuple([talk_for(course, course.first_heard[wish]) for wish in wishes])
                tables = tuple([tables_of(course)[-1] for _ in bans])
                return ("lot", lot, talks, tables, tuple(reasons))
            reasons.append(reason)
    return ("none", tuple(reasons))


def is_choice_paper(net, prices, wishes, bans, value):
    """Whether the value is a choice paper."""
    check_prices(net, prices)
    check_wishes(net, wishes)
    check_wishes(net, bans)
    lots_by_rank = by_rank(prices)
    if is_none_paper(value):
        return are_reasons(net, prices, wishes, bans, value[1], lots_by_rank)
    if not is_lot_paper(prices, value):
        return False
    _, lot, talks, tables, reasons = value
    chosen = with_lot(net, lot)
    return (
        are_talks_for(chosen, wishes, talks)
        and are_tables_for(chosen, bans, tables)
        and are_reasons(net, prices, wishes, bans, reasons, lots_by_rank[:lots_by_rank.index(lot)])
    )


def excludes(reason, lot):
    """Whether a reason, whatever talk or table it has, excludes a lot."""
    if not isinstance(reason, tuple) or len(reason) != 4 or not is_lot(reason[1]) or not is_lot(lot):
        raise InvalidOperation("no reason, or no lot")
    if reason[0] not in ("unheard", "heard") or boxes_of(reason[1]) != boxes_of(lot):
        raise InvalidOperation("no reason that tells of lots with these boxes")
    return excludes_lot(reason, lot)
