"""Chains of boxes: what the boxes between a host and one of its areas ask together."""

from lentdoors.base.kinds import LENDINGS, all_kinds, is_door, is_kind
from lentdoors.base.nets import check_net
from lentdoors.errors import InvalidChain, InvalidDoor

LOOKS = ("nothing", "address", "door", "key", "both", "exact")
CHAIN_KINDS = (
    ("address", "address"), ("address", "both"), ("address", "door"), ("address", "key"), ("address", "nothing"),
    ("door", "address"), ("door", "both"), ("door", "door"), ("door", "exact"), ("door", "key"), ("door", "nothing"),
    ("source", "address"), ("source", "door"), ("source", "nothing"),
)
NO_BOXES = ("source", "nothing")

# For each letting, what a box asks if the last lending up to it is by source, by address, by door.
ASKED = {
    "any": ("nothing", "nothing", "nothing"),
    "address": ("address", "key", "key"),
    "door": ("door", "both", "exact"),
}
# For each look, what its boxes ask if a box further in lends by source, by address, by door.
BEHIND = {
    "nothing": ("nothing", "nothing", "nothing"),
    "address": ("address", "key", "key"),
    "door": ("door", "both", "exact"),
    "key": ("key", "key", "key"),
    "both": ("both", "both", "exact"),
    "exact": ("exact", "exact", "exact"),
}


def is_chain_kind(value):
    """Whether the value is a chain kind."""
    return value in CHAIN_KINDS


def check_chain(value):
    """Raise InvalidChain for what is no chain kind."""
    if not is_chain_kind(value):
        raise InvalidChain("no chain kind")


def check_kinds(value):
    """Raise InvalidChain for what is not a tuple of one or more kinds."""
    if not isinstance(value, tuple) or not value or not all([is_kind(kind) for kind in value]):
        raise InvalidChain("no tuple of kinds")


def last_lending(one, other):
    """The later one of two lendings."""
    return LENDINGS[max(LENDINGS.index(one), LENDINGS.index(other))]


def asks_no_more(look, other):
    """Whether a look is the other one or asks less."""
    # The looks stand in an order in which just one pair cannot be compared.
    return LOOKS.index(look) <= LOOKS.index(other) and (look, other) != ("door", "key")


def joined_looks(one, other):
    """The least look that asks what both ask."""
    return [look for look in LOOKS if asks_no_more(one, look) and asks_no_more(other, look)][0]


def joined_kinds(inner, outer):
    """The chain kind of a chain whose inner boxes and outer boxes form chains of these kinds."""
    check_chain(inner)
    check_chain(outer)
    asked = BEHIND[outer[1]][LENDINGS.index(inner[0])]
    return (last_lending(inner[0], outer[0]), joined_looks(inner[1], asked))


def kind_alone(kind):
    """The chain kind of one box."""
    return (kind[0], ASKED[kind[1]][LENDINGS.index(kind[0])])


def chain_kind(kinds):
    """The chain kind of a chain whose boxes have these kinds, outwards."""
    check_kinds(kinds)
    chain = NO_BOXES
    for kind in kinds:
        chain = joined_kinds(chain, kind_alone(kind))
    return chain


def chain_of(net, host, area):
    """The chain kind of the boxes between a host and one of its areas."""
    check_net(net)
    boxes = net.boxes_between(host, area)
    return chain_kind(tuple([net.kind_of(box) for box in boxes])) if boxes else NO_BOXES


def boxes_for(chain):
    """One or two kinds of boxes that never turn messages round, and form a chain of this kind."""
    check_chain(chain)
    quiet = [kind for kind in all_kinds() if kind[2] == "never"]
    chains = [(kind,) for kind in quiet] + [(inner, outer) for inner in quiet for outer in quiet]
    return [one for one in chains if chain_kind(one) == chain][0]


def is_as_loose_chain(chain, other):
    """Whether a chain kind lends no later than the other one, and asks no more."""
    check_chain(chain)
    check_chain(other)
    return last_lending(chain[0], other[0]) == other[0] and asks_no_more(chain[1], other[1])


def lets_in_by(chain, used, target, source):
    """Whether a chain lets in a message from the source to the door that it has lent for the target."""
    check_chain(chain)
    if not isinstance(used, tuple) or not all([is_door(door) for door in used]):
        raise InvalidDoor("no tuple of doors")
    if not is_door(target) or target not in used or not is_door(source):
        raise InvalidDoor("no used door, or no door")
    asked = {
        "nothing": True,
        "address": source[0] in [door[0] for door in used],
        "door": source in used,
        "key": source[0] == target[0],
        "both": source in used and source[0] == target[0],
        "exact": source == target,
    }
    return asked[chain[1]]
