"""Sorts of doors: whose a door is, where it lies, and for what it was lent, as far as this can matter."""

from lentdoors.base.forms import OPEN, holds, is_ascending
from lentdoors.base.kinds import is_door
from lentdoors.base.nets import check_net, need
from lentdoors.chain.chains import chain_of
from lentdoors.errors import InvalidDoor, InvalidNet, InvalidOperation, InvalidSort
from lentdoors.live.nets import LiveNet


class Ground:
    """What the sorts of a net hang on, worked out once for many questions."""

    def __init__(self, net):
        # All areas from an area outwards, and the boxes, and the hosts and boxes, that stand in one of them.
        self.outwards = {area: (area,) + net.areas_of(area) for area in net.areas if area != OPEN}
        self.outwards[OPEN] = (OPEN,)
        self.boxes_out = {}
        self.names_out = {}
        for area, outs in self.outwards.items():
            self.boxes_out[area] = tuple([box for box in net.boxes if net.area_of(box) in outs])
            hosts = [host for host in net if net.area_of(host) in outs]
            self.names_out[area] = tuple(sorted([*hosts, *self.boxes_out[area]]))
        self.own = {host: (host, net.area_of(host), None) for host in net}
        # For each host and each of its areas: the boxes between them, and the grade.
        self.between = {}
        self.grades = {}
        for host in net:
            for area in net.areas_of(host):
                self.between[(host, area)] = net.boxes_between(host, area)
                self.grades[(host, area)] = chain_of(net, host, area)[0]

    def has_sort(self, value):
        """Whether the value is a sort of the net."""
        if not isinstance(value, tuple) or len(value) != 3:
            return False
        host, area, key = value
        if not isinstance(host, str) or not isinstance(area, str) or (host, area) not in self.grades:
            return False
        if self.grades[(host, area)] == "source":
            return key is None
        if self.grades[(host, area)] == "address":
            return holds(self.names_out[area], key)
        if isinstance(key, tuple) and len(key) == 1:
            return holds(self.boxes_out[area], key[0])
        return self.has_sort(key) and not self.single(key) and key[1] in self.outwards[area]

    def reaches(self, host, sort):
        """Whether the sort lies in one of the areas of the host."""
        return (host, sort[1]) in self.grades

    def boxes_of(self, host):
        """All boxes behind which the host stands, outwards."""
        return self.between[(host, OPEN)]

    def single(self, sort):
        """Whether a sort of the net is a single one."""
        return self.grades[sort[:2]] == "door"

    def place(self, sort):
        """The address of the doors of a sort."""
        boxes = self.between[sort[:2]]
        return boxes[-1] if boxes else sort[0]

    def source(self, host, target, area):
        """The sort of the source that a message of the host to a target shows in this area."""
        grade_there = self.grades[(host, area)]
        if grade_there == "source":
            return (host, area, None)
        if grade_there == "address":
            return (host, area, self.place(target))
        return (host, area, (self.place(target),) if self.single(target) else target)

    def cut(self, sort, area):
        """The sort of the doors that were lent in this area for the doors of a sort, which lie there or further out."""
        host, _, key = sort
        grade_there = self.grades[(host, area)]
        if grade_there == "source":
            return (host, area, None)
        if grade_there == "address" and isinstance(key, tuple):
            return (host, area, key[0] if len(key) == 1 else self.place(key))
        return (host, area, key)

    def keys_of(self, host, area):
        """The ascending list of the keys of all sorts with this host and this area."""
        if self.grades[(host, area)] == "source":
            return [None]
        if self.grades[(host, area)] == "address":
            return list(self.names_out[area])
        found = [(box,) for box in self.boxes_out[area]]
        for other, out in self.grades:
            if out in self.outwards[area] and self.grades[(other, out)] != "door":
                found.extend([(other, out, key) for key in self.keys_of(other, out)])
        return sorted(found)

    def sort_at(self, live, door):
        """The sort of an own or a lent door of a live net."""
        if door[0] in self.own:
            return self.own[door[0]]
        host, target = live.lent_for(door)
        area = live.net.area_of(door[0])
        grade_there = self.grades[(host, area)]
        if grade_there == "source":
            return (host, area, None)
        if grade_there == "address" or self._is_single_door(live, target):
            return (host, area, target[0] if grade_there == "address" else (target[0],))
        return (host, area, self.sort_at(live, target))

    def _is_single_door(self, live, door):
        """Whether the sort of this door is a single one; it does not hang on the target of the door."""
        host, _ = live.lent_for(door)
        return host is not None and self.grades[(host, live.net.area_of(door[0]))] == "door"


def check_sort(ground, value):
    """Raise InvalidSort for what is no sort of the net."""
    if not ground.has_sort(value):
        raise InvalidSort("no sort of the net")


def are_sorts(ground, value):
    """Whether the value is an ascending tuple of sorts of the net."""
    return isinstance(value, tuple) and all([ground.has_sort(sort) for sort in value]) and is_ascending(value)


def is_sort(net, value):
    """Whether the value is a sort of the net."""
    check_net(net)
    return Ground(net).has_sort(value)


def is_single(net, value):
    """Whether the value is a single sort of the net."""
    check_net(net)
    ground = Ground(net)
    return ground.has_sort(value) and ground.single(value)


def sorts(net, host, area):
    """All sorts of the net with this host and this area, ascending."""
    check_net(net)
    net.boxes_between(host, area)
    for key in Ground(net).keys_of(host, area):
        yield (host, area, key)


def own_sort(net, host):
    """The sort of the own doors of a host."""
    check_net(net)
    need(net.hosts, host)
    return (host, net.area_of(host), None)


def grade(net, host, area):
    """The last lending of the boxes between a host and one of its areas."""
    return chain_of(net, host, area)[0]


def address_of(net, sort):
    """The address of the doors of a sort."""
    check_net(net)
    ground = Ground(net)
    check_sort(ground, sort)
    return ground.place(sort)


def source_sort(net, host, target, *, area=None):
    """The sort of the source that a message of the host to a target shows in an area, or in that of the target."""
    check_net(net)
    need(net.hosts, host)
    ground = Ground(net)
    check_sort(ground, target)
    if area is None:
        area = target[1]
    need(net.areas, area)
    if area not in net.areas_of(host) or target[1] not in ground.outwards[area]:
        raise InvalidOperation("not an area of the host, or the target does not lie there or further out")
    return ground.source(host, target, area)


def used_sorts(net, box, target, sorts):
    """Those of these sorts for which a door of the sort that the target has at this box is lent."""
    check_net(net)
    need(net.boxes, box)
    ground = Ground(net)
    check_sort(ground, target)
    if not are_sorts(ground, sorts):
        raise InvalidSort("no ascending tuple of sorts of the net")
    if box not in ground.between[target[:2]]:
        raise InvalidOperation("the box does not stand between the host and the area of the target")
    outer = net.area_of(box)
    there = ground.cut(target, outer)
    return tuple([
        sort for sort in sorts
        if sort[1] in ground.outwards[outer] and ground.source(target[0], sort, outer) == there
    ])


def live_sort(live, door):
    """The sort of a door of a live net."""
    if not isinstance(live, LiveNet):
        raise InvalidNet("no live net")
    ground = Ground(live.net)
    if not is_door(door) or (door[0] not in ground.own and live.lent_for(door)[0] is None):
        raise InvalidDoor("neither an own door nor a lent one")
    return ground.sort_at(live, door)
