"""Maps of nets: how the parts of a net go to those of another one, so that whatever arrives goes on arriving."""

from lentdoors.base.forms import OPEN, holds, is_pair
from lentdoors.base.kinds import is_as_loose
from lentdoors.base.nets import check_net, need
from lentdoors.errors import InvalidMap, InvalidOperation
from lentdoors.live.talks import Talk, fits


class Pattern:
    """The parts of two nets, laid out once for the check of many maps from the one to the other."""

    def __init__(self, net, other):
        self.places = {box: area for box, (area, _) in net.boxes.items()}
        self.bound = net.hosts
        self._kinds = {box: kind for box, (_, kind) in net.boxes.items()}
        self._tellers = net.tellers
        self._known = net.known
        self._to_boxes = other.boxes
        self._to_hosts = other.hosts
        self._to_tellers = other.tellers
        self._to_known = other.known

    def area(self, boxes, area):
        """The image of an area, if boxes go to these images."""
        while area != OPEN and boxes[area] is None:
            area = self.places[area]
        return area if area == OPEN else boxes[area]

    def box_choices(self, box):
        """The list of the images that the box may have by its kind."""
        kind = self._kinds[box]
        return [None] + [to for to in self._to_boxes if is_as_loose(self._to_boxes[to][1], kind)]

    def host_choices(self, boxes, host):
        """The list of the images that the host may have by its area and by what it tells, if boxes go to these."""
        area = self.area(boxes, self.bound[host])
        tells = host in self._tellers
        return [to for to in self._to_hosts if self._to_hosts[to] == area and (to in self._to_tellers or not tells)]

    def fits_boxes(self, boxes):
        """Whether the images of the boxes alone break no rule."""
        kept = [box for box in boxes if boxes[box] is not None]
        for box in kept:
            area, kind = self._to_boxes[boxes[box]]
            shared = len([one for one in kept if boxes[one] == boxes[box]]) > 1
            if area != self.area(boxes, self.places[box]) or (shared and kind[2] != "lent"):
                return False
        return True

    def fits_known(self, hosts):
        """Whether those that know each other at first do so in the other net, if they go to these images."""
        pairs = [(hosts[one], hosts[two]) for one, two in self._known if one in hosts and two in hosts]
        return all([one == two or (one, two) in self._to_known for one, two in pairs])

    def fits_dissolved(self, hosts, boxes):
        """Whether what stands behind each dissolved box goes to one and the same thing, which the box permits."""
        for box in boxes:
            if boxes[box] is None:
                found = self._behind(hosts, boxes, box)
                if len(set(found)) > 1:
                    return False
                if found and found[0] in self._to_boxes and self._kinds[box][2] != "never":
                    return False
        return True

    def _behind(self, hosts, boxes, box):
        """The list of the images of all that stands in the area behind a box."""
        found = [hosts[host] for host in hosts if self.bound[host] == box]
        for one in boxes:
            if self.places[one] == box and boxes[one] is None:
                # A dissolved box goes where what stands behind it goes.
                found.extend(self._behind(hosts, boxes, one))
            elif self.places[one] == box:
                found.append(boxes[one])
        return found

    def is_map(self, hosts, boxes):
        """Whether these values of any form are the dicts of a map."""
        if not are_images(self.bound, hosts) or not are_images(self.places, boxes):
            return False
        if not all([boxes[box] is None or holds(self.box_choices(box), boxes[box]) for box in boxes]):
            return False
        if not self.fits_boxes(boxes) or not self.fits_known(hosts):
            return False
        found = all([hosts[host] in self.host_choices(boxes, host) for host in hosts])
        return found and self.fits_dissolved(hosts, boxes)


def are_images(names, value):
    """Whether the value is a dict with just these names as its keys."""
    return isinstance(value, dict) and len(value) == len(names) and all([name in value for name in names])


def filled(pattern, boxes):
    """The list of the dicts of the images of all boxes by kinds alone, for a list of these boxes."""
    found = [{}]
    for box in boxes:
        choices = pattern.box_choices(box)
        found = [{**one, box: to} for one in found for to in choices]
    return found


def search_order(pattern, boxes, choices):
    """The list of the hosts in the order in which their images are chosen: those that can fail soon come first."""
    # Hosts behind dissolved boxes are bound to one another, and few choices leave few rows to go on with.
    ranks = [
        (boxes.get(area, area) is not None, len(choices[host]), host) for host, area in pattern.bound.items()
    ]
    return [host for _, _, host in sorted(ranks)]


def host_rows(pattern, boxes):
    """All dicts of the images of the hosts with which these images of the boxes make a map."""
    choices = {host: pattern.host_choices(boxes, host) for host in pattern.bound}
    names = search_order(pattern, boxes, choices)
    waiting = [()] if all([len(choices[name]) > 0 for name in names]) else []
    while waiting:
        row = waiting.pop()
        hosts = {names[at]: row[at] for at in range(len(row))}
        if pattern.fits_known(hosts) and pattern.fits_dissolved(hosts, boxes):
            if len(row) == len(names):
                yield hosts
            else:
                waiting.extend([(*row, to) for to in choices[names[len(row)]]])


class NetMap:
    """Where the hosts and boxes of a net go in another one. A map never changes."""

    def __init__(self, net, other, hosts, *, boxes=None):
        check_net(net)
        check_net(other)
        to_boxes = {box: box for box in net.boxes} if boxes is None else boxes
        if not Pattern(net, other).is_map(hosts, to_boxes):
            raise InvalidMap("no map")
        self._net = net
        self._other = other
        self._hosts = {host: hosts[host] for host in net}
        self._boxes = {box: to_boxes[box] for box in net.boxes}

    @classmethod
    def within(cls, net, other):
        """The map that takes each host and each box to itself."""
        check_net(net)
        return cls(net, other, {host: host for host in net})

    @property
    def net(self):
        """The net whose parts go somewhere."""
        return self._net

    @property
    def other(self):
        """The net to which they go."""
        return self._other

    @property
    def hosts(self):
        """A dict from the hosts to their images."""
        return dict(self._hosts)

    @property
    def boxes(self):
        """A dict from the boxes to their images, None for dissolved ones."""
        return dict(self._boxes)

    def area(self, area):
        """The image of an area."""
        need(self._net.areas, area)
        while area != OPEN and self._boxes[area] is None:
            area = self._net.area_of(area)
        return area if area == OPEN else self._boxes[area]

    def dissolved(self):
        """The ascending tuple of the dissolved boxes."""
        return tuple([box for box in self._boxes if self._boxes[box] is None])

    def is_one_to_one(self):
        """Whether no two hosts and no two boxes have one image, and no box is dissolved."""
        found = list(self._hosts.values()) + list(self._boxes.values())
        return not self.dissolved() and len(set(found)) == len(found)

    def _moved(self, message):
        """The message with the images of its hosts."""
        sender, (word, what) = message
        return (self._hosts[sender], (word, self._hosts[what] if word == "own" else what))

    def __call__(self, talk):
        if not fits(self._net, talk):
            raise InvalidOperation("the talk does not fit the net")
        return Talk.of(tuple([self._moved(message) for message in talk.messages()]))

    def __getitem__(self, name):
        if holds(self._hosts, name):
            return self._hosts[name]
        need(self._boxes, name)
        return self._boxes[name]

    def __iter__(self):
        raise TypeError("a map cannot be iterated over")

    def __mul__(self, other):
        if not isinstance(other, NetMap) or self._other != other._net:
            raise InvalidOperation("no map that begins where this one leads")
        hosts = {host: other._hosts[self._hosts[host]] for host in self._hosts}
        boxes = {box: None if to is None else other._boxes[to] for box, to in self._boxes.items()}
        return NetMap(self._net, other._other, hosts, boxes=boxes)

    def __eq__(self, value):
        return (
            isinstance(value, NetMap)
            and self._net == value._net
            and self._other == value._other
            and self._hosts == value._hosts
            and self._boxes == value._boxes
        )

    def __str__(self):
        return f"map of {len(self._hosts)} hosts, {len(self._boxes)} boxes"


def is_map(net, other, value):
    """Whether the value is a pair of the dicts of a map."""
    check_net(net)
    check_net(other)
    return is_pair(value) and Pattern(net, other).is_map(value[0], value[1])


def maps(net, other):
    """All maps from a net to another one."""
    check_net(net)
    check_net(other)
    pattern = Pattern(net, other)
    for boxes in filled(pattern, list(net.boxes)):
        if pattern.fits_boxes(boxes):
            for hosts in host_rows(pattern, boxes):
                yield NetMap(net, other, hosts, boxes=boxes)
