"""Nets: hosts that stand in areas behind boxes."""

from lentdoors.base.forms import OPEN, holds, is_net_form, is_renaming, outward
from lentdoors.base.kinds import check_kind, is_as_loose, is_name
from lentdoors.errors import InvalidNet, InvalidOperation, UnknownName


def need(names, value):
    """Raise UnknownName for what is not one of these names."""
    if not holds(names, value):
        raise UnknownName(value)


def check_net(value):
    """Raise InvalidNet for what is no net."""
    if not isinstance(value, Net):
        raise InvalidNet("no net")


def changed_net(boxes, hosts, tellers, known):
    """The net with these tellers and pairs, in any order and perhaps twice; refused if there is none."""
    in_order = tuple(sorted(set(tellers)))
    pairs = tuple(sorted(set(known)))
    try:
        return Net(boxes, hosts, tellers=in_order, known=pairs)
    except InvalidNet:
        raise InvalidOperation("the result is no net") from None


class Net:
    """Who stands where, who tells, and who knows whom at first. A net never changes."""

    def __init__(self, boxes, hosts, *, tellers=(), known=()):
        if not is_net_form(boxes, hosts, tellers, known):
            raise InvalidNet("no net")
        self._boxes = {box: boxes[box] for box in sorted(boxes)}
        self._hosts = {host: hosts[host] for host in sorted(hosts)}
        self._tellers = tellers
        self._known = known
        self._order = tuple(sorted(hosts))
        self._areas = tuple(sorted([OPEN, *boxes]))
        places = {box: boxes[box][0] for box in boxes}
        places.update(hosts)
        self._ways = {name: outward(boxes, places[name]) for name in places}

    @property
    def boxes(self):
        """A dict from the boxes to pairs of the outer area and the kind."""
        return dict(self._boxes)

    @property
    def hosts(self):
        """A dict from the hosts to their areas."""
        return dict(self._hosts)

    @property
    def tellers(self):
        """The ascending tuple of the tellers."""
        return self._tellers

    @property
    def known(self):
        """The ascending tuple of the pairs of which the first host knows the other one at first."""
        return self._known

    @property
    def areas(self):
        """The ascending tuple of all areas."""
        return self._areas

    def area_of(self, name):
        """The area in which a host or a box stands."""
        need(self._ways, name)
        return self._ways[name][0]

    def areas_of(self, name):
        """All areas of a host or a box, outwards."""
        need(self._ways, name)
        return self._ways[name]

    def kind_of(self, box):
        """The kind of a box."""
        need(self._boxes, box)
        return self._boxes[box][1]

    def hosts_in(self, area):
        """The ascending tuple of the hosts that have this area among theirs."""
        need(self._areas, area)
        return tuple([host for host in self._order if area in self._ways[host]])

    def boxes_between(self, host, area):
        """The boxes that a message of the host to this area passes, outwards."""
        need(self._hosts, host)
        need(self._areas, area)
        way = self._ways[host]
        if area not in way:
            raise InvalidOperation("not an area of the host")
        # Each area but open has the name of the box behind which it lies.
        return way[:way.index(area)]

    def with_kind(self, box, kind):
        """The net in which this box has this kind."""
        need(self._boxes, box)
        check_kind(kind)
        boxes = dict(self._boxes)
        boxes[box] = (self._boxes[box][0], kind)
        return changed_net(boxes, self._hosts, self._tellers, self._known)

    def with_teller(self, host):
        """The net in which this host is a teller."""
        need(self._hosts, host)
        return changed_net(self._boxes, self._hosts, self._tellers + (host,), self._known)

    def with_known(self, host, other):
        """The net in which this host knows the door 0 of the other one at first."""
        need(self._hosts, host)
        need(self._hosts, other)
        return changed_net(self._boxes, self._hosts, self._tellers, self._known + ((host, other),))

    def with_host(self, name, area):
        """The net with one more host."""
        need(self._areas, area)
        self._check_new(name)
        hosts = dict(self._hosts)
        hosts[name] = area
        return changed_net(self._boxes, hosts, self._tellers, self._known)

    def with_box(self, name, area, kind):
        """The net with one more box."""
        need(self._areas, area)
        check_kind(kind)
        self._check_new(name)
        boxes = dict(self._boxes)
        boxes[name] = (area, kind)
        return changed_net(boxes, self._hosts, self._tellers, self._known)

    def without(self, name):
        """The net without a host, also in its pairs, or without a box behind which nothing stands."""
        need(self._ways, name)
        if name in [self._ways[other][0] for other in self._ways]:
            raise InvalidOperation("something stands behind the box")
        boxes = {box: self._boxes[box] for box in self._boxes if box != name}
        hosts = {host: self._hosts[host] for host in self._hosts if host != name}
        tellers = [host for host in self._tellers if host != name]
        known = [pair for pair in self._known if name not in pair]
        return changed_net(boxes, hosts, tellers, known)

    def with_twin(self, host, name):
        """The net with one more host that stands, tells, knows and is known like this one."""
        need(self._hosts, host)
        self._check_new(name)
        hosts = dict(self._hosts)
        hosts[name] = self._hosts[host]
        tellers = list(self._tellers)
        if host in self._tellers:
            tellers.append(name)
        known = [*self._known, (host, name), (name, host)]
        known.extend([(name, other) for one, other in self._known if one == host])
        known.extend([(one, name) for one, other in self._known if other == host])
        return changed_net(self._boxes, hosts, tellers, known)

    def renamed(self, names):
        """The net in which some hosts and boxes have other names."""
        if not is_renaming(self._ways, names):
            raise InvalidOperation("no dict from hosts and boxes to names")
        new = {name: names.get(name, name) for name in self._ways}
        new[OPEN] = OPEN
        # Equal names would become one key of a dict, and then look like a smaller net.
        if len(set(list(new.values()))) < len(new):
            raise InvalidOperation("two would have one name")
        boxes = {new[box]: (new[area], kind) for box, (area, kind) in self._boxes.items()}
        hosts = {new[host]: new[area] for host, area in self._hosts.items()}
        tellers = [new[host] for host in self._tellers]
        known = [(new[host], new[other]) for host, other in self._known]
        return changed_net(boxes, hosts, tellers, known)

    def is_within(self, other):
        """Whether the other net is this one, perhaps with looser boxes, more tellers and more pairs."""
        if not isinstance(other, Net):
            raise InvalidOperation("not a net")
        if self._ways != other._ways or self._order != other._order:
            return False
        return (
            all([is_as_loose(other._boxes[box][1], self._boxes[box][1]) for box in self._boxes])
            and all([host in other._tellers for host in self._tellers])
            and all([pair in other._known for pair in self._known])
        )

    def _check_new(self, name):
        """Raise InvalidOperation for what is no name, or is one of this net."""
        if not is_name(name) or holds(self._ways, name):
            raise InvalidOperation("not a new name")

    def __contains__(self, value):
        return holds(self._ways, value)

    def __iter__(self):
        return iter(self._order)

    def __len__(self):
        return len(self._order)

    def __eq__(self, value):
        return (
            isinstance(value, Net)
            and self._boxes == value._boxes
            and self._hosts == value._hosts
            and self._tellers == value._tellers
            and self._known == value._known
        )

    def __str__(self):
        return f"net of {len(self._hosts)} hosts, {len(self._boxes)} boxes"
