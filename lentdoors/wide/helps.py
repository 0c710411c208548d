"""Helps: what hosts may know and tell in addition, and how much of it is needed."""

from lentdoors.base.forms import can_be_known, holds, is_ascending
from lentdoors.base.nets import changed_net, check_net
from lentdoors.errors import InvalidOperation, TooMany
from lentdoors.know.short import subsets
from lentdoors.wide.papers import check_wishes, is_two_sided, sides, two_sided

MAX_HELPS = 8


def is_help(net, value):
    """Whether the value is a help for the net."""
    if not isinstance(value, tuple) or not value:
        return False
    if value[0] == "teller":
        return len(value) == 2 and holds(net.hosts, value[1])
    return value[0] == "known" and can_be_known(net.boxes, net.hosts, value[1:])


def check_helps(net, value):
    """Raise the errors for a net, and for what are no helps for it."""
    check_net(net)
    if not isinstance(value, tuple) or not all([is_help(net, one) for one in value]) or not is_ascending(value):
        raise InvalidOperation("no ascending tuple of helps")


def check_many(helps):
    """Raise TooMany for more helps than there may be."""
    if len(helps) > MAX_HELPS:
        raise TooMany(MAX_HELPS)


def helped(net, helps):
    """The net that has these helps, too."""
    tellers = [one[1] for one in helps if one[0] == "teller"]
    known = [one[1:] for one in helps if one[0] == "known"]
    return changed_net(net.boxes, net.hosts, [*net.tellers, *tellers], [*net.known, *known])


def nets_of_subsets(net, helps, wishes):
    """A dict from all subsets of the helps, ascending, to the nets that have them; all arguments are checked."""
    check_helps(net, helps)
    check_wishes(net, wishes)
    check_many(helps)
    return {subset: helped(net, subset) for subset in sorted(subsets(helps))}


def has_all(subset, other):
    """Whether a subset of helps has all of another one."""
    return all([one in subset for one in other])


def with_helps(net, helps):
    """The net that has these helps, too."""
    check_helps(net, helps)
    check_many(helps)
    return helped(net, helps)


def help_paper(net, helps, *wishes):
    """The least subsets that are enough for the wishes and the greatest ones that are not, with what shows it."""
    return two_sided(nets_of_subsets(net, helps, wishes), wishes, has_all)


def is_help_paper(net, helps, value, *wishes):
    """Whether the value is a help paper."""
    return is_two_sided(nets_of_subsets(net, helps, wishes), wishes, has_all, value)


def bars_of(net, helps, *wishes):
    """The ascending tuple of the least subsets without which the other helps are not enough."""
    _, greatest = sides(nets_of_subsets(net, helps, wishes), wishes, has_all)
    return tuple(sorted([tuple([one for one in helps if one not in subset]) for subset in greatest]))


def roles(net, helps, *wishes):
    """A dict from the helps to what they are for the wishes: needed, useful, or idle."""
    least, _ = sides(nets_of_subsets(net, helps, wishes), wishes, has_all)
    found = {}
    for one in helps:
        many = len([subset for subset in least if one in subset])
        found[one] = "idle"
        if many > 0:
            found[one] = "needed" if many == len(least) else "useful"
    return found
