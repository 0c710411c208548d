"""What can be heard in a whole net, and which nets do not differ in it."""

from lentdoors.base.kinds import LENDINGS, LETTINGS
from lentdoors.base.nets import check_net, need
from lentdoors.chain.chains import chain_of
from lentdoors.errors import InvalidOperation
from lentdoors.know.course import Course
from lentdoors.know.hearing import check_pair, hears, lines_in


class Hearing:
    """Who can come to hear whom in a net. A hearing never changes."""

    def __init__(self, net):
        check_net(net)
        self._net = net
        self._course = Course(net, tuple(net))
        # In a course, hosts also hear themselves.
        self._pairs = tuple(sorted([pair for pair in self._course.first_heard if pair[0] != pair[1]]))

    @property
    def net(self):
        """The net in which all this can be heard."""
        return self._net

    def speakers_of(self, host):
        """The ascending tuple of the hosts that a host can come to hear."""
        need(self._net.hosts, host)
        return tuple([other for one, other in self._pairs if one == host])

    def listeners_of(self, host):
        """The ascending tuple of the hosts that can come to hear a host."""
        need(self._net.hosts, host)
        return tuple([one for one, other in self._pairs if other == host])

    def pairs(self):
        """The ascending tuple of the pairs of which the first host can come to hear the second one."""
        return self._pairs

    def both(self):
        """The ascending tuple of the pairs, the first name less, in which each can come to hear the other one."""
        return tuple([(one, other) for one, other in self._pairs if one < other and (other, one) in self._pairs])

    def lined(self):
        """Those of the pairs of both() that have a line."""
        return tuple([pair for pair in self.both() if lines_in(self._course, *pair)])

    def relay(self, host, other):
        """A shortest way on which hosts can pass on by hand what the other one tells, up to the host, or None."""
        check_pair(self._net, host, other)
        ways = {other: (other,)}
        fresh = [other]
        while fresh and host not in ways:
            reached = []
            for speaker in fresh:
                for listener in self.listeners_of(speaker):
                    if listener not in ways:
                        ways[listener] = (*ways[speaker], listener)
                        reached.append(listener)
            fresh = reached
        return ways.get(host)

    def bars(self, host, other):
        """The ascending tuple of the boxes each of which alone keeps the host from hearing the other one."""
        check_pair(self._net, host, other)
        if (host, other) in self._pairs:
            return ()
        return tuple([box for box in self._net.boxes if hears(self._without_bar(box), host, other)])

    def is_within(self, other):
        """Whether all pairs can be heard in the other hearing, too."""
        check_hearing(other)
        return all([pair in other._pairs for pair in self._pairs])

    def _without_bar(self, box):
        """The net in which this box is as loose as it can be with its turning."""
        return self._net.with_kind(box, (LENDINGS[0], LETTINGS[0], self._net.kind_of(box)[2]))

    def __getitem__(self, host):
        return self.speakers_of(host)

    def __sub__(self, other):
        check_hearing(other)
        return tuple([pair for pair in self._pairs if pair not in other._pairs])

    def __contains__(self, value):
        return value in self._pairs

    def __iter__(self):
        return iter(self._pairs)

    def __len__(self):
        return len(self._pairs)

    def __eq__(self, value):
        return (
            isinstance(value, Hearing)
            and self._pairs == value._pairs
            and tuple(self._net) == tuple(value._net)
        )

    def __str__(self):
        return f"hearing of {len(self._net)} hosts, {len(self._pairs)} pairs"


def check_hearing(value):
    """Raise InvalidOperation for what is no hearing."""
    if not isinstance(value, Hearing):
        raise InvalidOperation("no hearing")


def is_same_ground(net, other):
    """Whether two nets have the same parts in the same places, and boxes that turn messages in the same way."""
    if net.hosts != other.hosts or net.tellers != other.tellers or net.known != other.known:
        return False
    turnings = [{box: (area, kind[2]) for box, (area, kind) in one.boxes.items()} for one in (net, other)]
    return turnings[0] == turnings[1]


def are_alike(net, other):
    """Whether two nets differ at most in boxes that ask for the same together."""
    check_net(net)
    check_net(other)
    if not is_same_ground(net, other):
        return False
    places = [(host, area) for host in net for area in net.areas_of(host)]
    return all([chain_of(net, *place) == chain_of(other, *place) for place in places])
