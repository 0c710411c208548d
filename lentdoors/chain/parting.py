"""Nets that part chain kinds: nets in which it makes a difference to somebody which one a chain has."""

from lentdoors.base.forms import holds
from lentdoors.base.kinds import LETTERS, is_name
from lentdoors.base.nets import Net, changed_net, check_net, need
from lentdoors.chain.chains import boxes_for, check_chain, check_kinds
from lentdoors.errors import InvalidOperation
from lentdoors.know.hearing import hears

# In all frames the box left, behind which a stands, is to be replaced; b stands behind the box deep, which stands, as c
# does, behind the box right, and help in the open. A frame tells the area of left, the kinds of right and deep, the
# tellers, the host and the speaker. Each two of the fourteen chain kinds are parted by one of these frames.
FRAMES = (
    ("open", ("address", "any", "never"), ("source", "any", "never"), ("help",), "a", "b"),
    ("open", ("address", "any", "never"), ("source", "door", "never"), ("c", "help"), "b", "a"),
    ("open", ("source", "door", "never"), ("source", "any", "never"), ("help",), "b", "a"),
    ("open", ("source", "door", "never"), ("source", "any", "never"), ("help",), "a", "b"),
    ("open", ("source", "address", "never"), ("source", "door", "never"), ("c", "help"), "a", "b"),
    ("right", ("source", "address", "inner"), ("source", "any", "never"), ("help",), "a", "b"),
)
REPLACED = ("source", "any", "never")
KNOWN = (("a", "help"), ("b", "c"), ("b", "help"), ("c", "help"))


def framed(frame):
    """The net of a frame, with its box, its host and its speaker."""
    area, right, deep, tellers, host, speaker = frame
    boxes = {"left": (area, REPLACED), "right": ("open", right), "deep": ("right", deep)}
    hosts = {"a": "left", "b": "deep", "c": "right", "help": "open"}
    return (Net(boxes, hosts, tellers=tellers, known=KNOWN), "left", host, speaker)


def are_new_names(net, value, many):
    """Whether the value is a tuple of this many different names that are not in the net."""
    if not isinstance(value, tuple) or len(value) != many or not all([is_name(name) for name in value]):
        return False
    return len(set(value)) == many and not any([name in net for name in value])


def put_behind(net, box, kinds, *, names=()):
    """The net in which a chain of boxes with these kinds, outwards, stands in the place of the box."""
    check_net(net)
    need(net.boxes, box)
    check_kinds(kinds)
    if not are_new_names(net, names, len(kinds) - 1):
        raise InvalidOperation("no tuple of new names, one fewer than kinds")
    boxes = net.boxes
    outer = [*names, boxes[box][0]]
    for at, name in enumerate([box, *names]):
        boxes[name] = (outer[at], kinds[at])
    return changed_net(boxes, net.hosts, net.tellers, net.known)


def hears_behind(net, box, chain, host, speaker):
    """Whether the host can come to hear the speaker with a chain of this kind behind the box; None if it is no net."""
    row = boxes_for(chain)
    free = [name for name in LETTERS if name not in net]
    try:
        changed = put_behind(net, box, row, names=tuple(free[:len(row) - 1]))
    except InvalidOperation:
        return None
    return hears(changed, host, speaker)


def is_case(value):
    """Whether the value is a tuple of a net, one of its boxes, and two different hosts."""
    if not isinstance(value, tuple) or len(value) != 4 or not isinstance(value[0], Net):
        return False
    net, box, host, speaker = value
    return holds(net.boxes, box) and holds(net.hosts, host) and holds(net.hosts, speaker) and host != speaker


def parting(chain, other):
    """A parting of two chain kinds, or None if they are equal."""
    check_chain(chain)
    check_chain(other)
    for frame in FRAMES:
        value = framed(frame)
        if is_parting(chain, other, value):
            return value
    return None


def is_parting(chain, other, value):
    """Whether the value is a parting of two chain kinds."""
    check_chain(chain)
    check_chain(other)
    if not is_case(value):
        return False
    net, box, host, speaker = value
    found = [hears_behind(net, box, one, host, speaker) for one in (chain, other)]
    return None not in found and found[0] != found[1]
