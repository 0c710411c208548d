"""Openings: which kinds of some boxes let the hosts of a net hear one another as wished."""

from lentdoors.base.forms import OPEN, holds, is_ascending, is_pair
from lentdoors.base.kinds import is_as_loose, is_kind, is_name
from lentdoors.base.nets import check_net
from lentdoors.errors import InvalidOperation, TooMany
from lentdoors.wide.papers import check_wishes, is_two_sided, two_sided, unheard

MAX_LOTS = 729
MAX_OFFERED = 3


def is_place(value):
    """Whether the value is a pair of a name that a box may have and a kind."""
    return is_pair(value) and is_name(value[0]) and value[0] != OPEN and is_kind(value[1])


def is_lot(value):
    """Whether the value is a lot of an offer for any net."""
    if not isinstance(value, tuple) or not 1 <= len(value) <= MAX_OFFERED or not all([is_place(one) for one in value]):
        return False
    return is_ascending([box for box, _ in value])


def boxes_of(lot):
    """The list of the boxes of a lot."""
    return [box for box, _ in lot]


def is_as_loose_lot(lot, other):
    """Whether a lot is at least as loose as another one of the same boxes."""
    return all([is_as_loose(kind, other[at][1]) for at, (_, kind) in enumerate(lot)])


def are_offered(value):
    """Whether the value is a nonempty ascending tuple of kinds."""
    if not isinstance(value, tuple) or not value or not all([is_kind(kind) for kind in value]):
        return False
    return is_ascending(value)


def is_offer(net, value):
    """Whether the value is an offer for the net."""
    if not isinstance(value, dict) or not 1 <= len(value) <= MAX_OFFERED:
        return False
    return all([holds(net.boxes, box) and are_offered(value[box]) for box in value])


def check_offer(net, value):
    """Raise the errors for a net, and for what is no offer for it."""
    check_net(net)
    if not is_offer(net, value):
        raise InvalidOperation("no offer for the net")


def lots_of(offer):
    """The ascending list of all lots of an offer; refused if there are too many."""
    many = 1
    for box in offer:
        many = many * len(offer[box])
    if many > MAX_LOTS:
        raise TooMany(MAX_LOTS)
    found = [()]
    for box in sorted(offer):
        found = [(*lot, (box, kind)) for lot in found for kind in offer[box]]
    return found


def with_lot(net, lot):
    """The net in which the boxes of a lot have its kinds."""
    for box, kind in lot:
        net = net.with_kind(box, kind)
    return net


def nets_of(net, offer, wishes):
    """A dict from all lots of an offer, ascending, to their nets; all arguments are checked."""
    check_offer(net, offer)
    check_wishes(net, wishes)
    return {lot: with_lot(net, lot) for lot in lots_of(offer)}


def fulfils(net, *wishes):
    """Whether in each of these pairs the first host can come to hear the second one."""
    check_net(net)
    check_wishes(net, wishes)
    return not unheard(net, wishes)


def lots(net, offer):
    """All lots of an offer, ascending."""
    check_offer(net, offer)
    for lot in lots_of(offer):
        yield lot


def net_of(net, lot):
    """The net in which the boxes of a lot have its kinds."""
    check_net(net)
    if not is_lot(lot) or not all([holds(net.boxes, box) for box in boxes_of(lot)]):
        raise InvalidOperation("no lot for the net")
    return with_lot(net, lot)


def frontier(net, offer, *wishes):
    """The strictest lots that fulfil the wishes and the loosest ones that do not, with what shows it."""
    return two_sided(nets_of(net, offer, wishes), wishes, is_as_loose_lot)


def is_frontier(net, offer, value, *wishes):
    """Whether the value is a frontier."""
    return is_two_sided(nets_of(net, offer, wishes), wishes, is_as_loose_lot, value)


def are_lot_rows(value, size):
    """Whether the value is a tuple of tuples of this size that begin with lots."""
    if not isinstance(value, tuple):
        return False
    return all([isinstance(row, tuple) and len(row) == size and is_lot(row[0]) for row in value])


def decided(frontier, lot):
    """What the lots of a frontier tell of a lot: whether its net fulfils the wishes."""
    if not is_pair(frontier) or not are_lot_rows(frontier[0], 2) or not are_lot_rows(frontier[1], 3) or not is_lot(lot):
        raise InvalidOperation("no frontier, or no lot")
    strictest, loosest = [
        [row[0] for row in rows if boxes_of(row[0]) == boxes_of(lot)] for rows in frontier
    ]
    fulfilling = any([is_as_loose_lot(lot, one) for one in strictest])
    failing = any([is_as_loose_lot(one, lot) for one in loosest])
    if fulfilling == failing:
        raise InvalidOperation("both sides tell of the lot, or neither")
    return fulfilling
