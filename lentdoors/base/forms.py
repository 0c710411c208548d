"""What makes arguments a net."""

from lentdoors.base.kinds import is_kind, is_name

OPEN = "open"
MAX_BOXES = 4
MAX_HOSTS = 6
MAX_BEHIND = 3


def holds(names, value):
    """Whether a value of any form is one of these names; other values may have no hash."""
    return isinstance(value, str) and value in names


def outward(boxes, area):
    """The areas from this one outwards; the last one is not open if no way, or too long a way, leads there."""
    way = [area]
    while way[-1] != OPEN and len(way) <= MAX_BEHIND:
        way.append(boxes[way[-1]][0])
    return tuple(way)


def is_pair(value):
    """Whether the value is a tuple of two."""
    return isinstance(value, tuple) and len(value) == 2


def is_ascending(values):
    """Whether each of these values, which can be compared, is less than the next one."""
    return all([values[at] < values[at + 1] for at in range(len(values) - 1)])


def is_area(boxes, value):
    """Whether the value is an area of a net with these boxes."""
    return holds(boxes, value) or value == OPEN


def are_named(value):
    """Whether the value is a dict from names that hosts and boxes may have."""
    return isinstance(value, dict) and all([is_name(name) and name != OPEN for name in value])


def are_boxes(value):
    """Whether the value tells of boxes from each of which a way leads outwards to open."""
    if not are_named(value) or len(value) > MAX_BOXES:
        return False
    places = list(value.values())
    if not all([is_pair(place) and is_area(value, place[0]) and is_kind(place[1]) for place in places]):
        return False
    return all([outward(value, box)[-1] == OPEN for box in value])


def are_hosts(boxes, value):
    """Whether the value tells of hosts that stand in areas of these boxes."""
    if not are_named(value) or not 1 <= len(value) <= MAX_HOSTS:
        return False
    return all([name not in boxes and is_area(boxes, value[name]) for name in value])


def are_tellers(hosts, value):
    """Whether the value is an ascending tuple of hosts."""
    return isinstance(value, tuple) and all([holds(hosts, name) for name in value]) and is_ascending(value)


def can_be_known(boxes, hosts, value):
    """Whether the value is a pair of two hosts of which the first may know the other one at first."""
    if not is_pair(value) or not holds(hosts, value[0]) or not holds(hosts, value[1]):
        return False
    return value[0] != value[1] and hosts[value[1]] in outward(boxes, hosts[value[0]])


def are_known(boxes, hosts, value):
    """Whether the value is an ascending tuple of pairs of hosts of which the first may know the other one."""
    if not isinstance(value, tuple):
        return False
    return all([can_be_known(boxes, hosts, pair) for pair in value]) and is_ascending(value)


def is_net_form(boxes, hosts, tellers, known):
    """Whether these are the arguments of a net."""
    if not are_boxes(boxes) or not are_hosts(boxes, hosts):
        return False
    return are_tellers(hosts, tellers) and are_known(boxes, hosts, known)


def is_renaming(names, value):
    """Whether the value is a dict from some of these names to names."""
    return isinstance(value, dict) and all([holds(names, name) and is_name(value[name]) for name in value])
