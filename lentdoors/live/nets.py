"""Nets at work: who has sent what, who has heard it, and who knows which doors."""

from lentdoors.base.kinds import check_door, is_number
from lentdoors.base.nets import check_net, need
from lentdoors.errors import InvalidNumber, InvalidOperation, NothingToUndo, TooMany
from lentdoors.live.boxes import LiveBox

MAX_MESSAGES = 6000
MAX_OWN = 9


def way_out(boxes, names, own, target):
    """The own door of a message to this target, and the doors that these boxes show in its place, outwards."""
    shown = [own]
    for name in names:
        shown.append(boxes[name].offer(shown[-1], target))
    # All numbers have been chosen, so nothing can fail between the first note and the last one.
    for at, name in enumerate(names):
        boxes[name].note(shown[at], target, shown[at + 1])
    return shown


def way_in(boxes, shown, target):
    """The host at which a message that shows these doors arrives and the source it shows there, or None twice."""
    source = shown[-1]
    if len(shown) > 1 and source[0] == target[0]:
        turning = boxes[target[0]].kind[2]
        if turning == "never":
            return (None, None)
        if turning == "inner":
            source = shown[-2]
            target = boxes[target[0]].inner(target)
    while target[0] in boxes:
        box = boxes[target[0]]
        if not box.lets_in(target, source):
            return (None, None)
        target = box.inner(target)
    return (target[0], source)


class LiveNet:
    """A net in which messages are sent."""

    def __init__(self, net, *, numbers=None):
        check_net(net)
        self._net = net
        self._boxes = {box: LiveBox(box, net.kind_of(box), numbers=numbers) for box in net.boxes}
        self._knows = {host: {(host, 0): True} for host in net}
        for host, other in net.known:
            self._knows[host][(other, 0)] = True
        # A tuple, so that a loop over the live net does not see what is sent in it.
        self._log = ()
        self._learned = []
        self._marks = []

    @property
    def net(self):
        """The net without its messages."""
        return self._net

    def can_send(self, host, door):
        """Whether this is a host that knows the door, and has its area."""
        if host not in self._knows or door not in self._knows[host]:
            return False
        return self._net.area_of(door[0]) in self._net.areas_of(host)

    def send(self, host, door, *, own=0):
        """Send a message from an own door, and return the host that hears it, or None."""
        need(self._knows, host)
        check_door(door)
        if not is_number(own) or own > MAX_OWN:
            raise InvalidNumber(own)
        if not self.can_send(host, door):
            raise InvalidOperation("the host does not know the door yet, or has not its area")
        self._check_room(1)
        mark = self._mark()
        shown = way_out(self._boxes, self._between(host, door), (host, own), door)
        self._marks.append(mark)
        self._learn(host, (host, own))
        self._bring_in(shown, door, self._told_by(host))
        return self._log[-1][3]

    def round(self):
        """Send a message from each host to each door that it knows and whose area it has; return how many."""
        sent = [(host, door) for host in self._net for door in self.knows(host) if self.can_send(host, door)]
        self._check_room(len(sent))
        mark = self._mark()
        # Lent on copies, since a later message may fail for its number when earlier ones have gone out.
        boxes = {name: self._boxes[name].copied() for name in self._boxes}
        shown = [way_out(boxes, self._between(host, door), (host, 0), door) for host, door in sent]
        self._boxes = boxes
        self._marks.append(mark)
        told = {host: self._told_by(host) for host in self._net}
        for at, (host, door) in enumerate(sent):
            self._bring_in(shown[at], door, told[host])
        return len(sent)

    def knows(self, host):
        """The ascending tuple of the doors that a host knows."""
        need(self._knows, host)
        return tuple(sorted(self._knows[host]))

    def heard(self, host):
        """The ascending tuple of the hosts that a host has heard."""
        need(self._knows, host)
        return tuple(sorted({entry[0] for entry in self._log if entry[3] == host}))

    def log(self):
        """The tuple of the messages, each with the host that heard it and the source that it learned."""
        return self._log

    def box(self, name):
        """A copy of a box at work, with its chooser."""
        need(self._boxes, name)
        return self._boxes[name].copied()

    def news(self):
        """The pairs of a host and a door that it knows since the last call of send or round."""
        return tuple(self._learned[self._marks[-1][1]:])

    def back(self, *, many=1):
        """Take back what the last calls of send and round have done."""
        if not is_number(many):
            raise InvalidNumber(many)
        if many > len(self._marks):
            raise NothingToUndo(many)
        if many == 0:
            return
        messages, learned, notes = self._marks[-many]
        del self._marks[-many:]
        self._log = self._log[:messages]
        while len(self._learned) > learned:
            host, door = self._learned.pop()
            del self._knows[host][door]
        for name in notes:
            self._boxes[name].take_back(notes[name])

    def copy(self):
        """An equal live net with the same chooser and the same calls to take back, that goes on by itself."""
        other = LiveNet(self._net)
        other._boxes = {name: self._boxes[name].copied() for name in self._boxes}
        other._knows = {host: {door: True for door in self._knows[host]} for host in self._knows}
        other._log = self._log
        other._learned = list(self._learned)
        other._marks = list(self._marks)
        return other

    def lent_for(self, door):
        """The host for which a door was lent, and the target of the message for which it was, or None twice."""
        if door[0] not in self._boxes or door not in self._boxes[door[0]]:
            return (None, None)
        target = self._boxes[door[0]].lent_for(door)
        while door[0] in self._boxes:
            door = self._boxes[door[0]].inner(door)
        return (door[0], target)

    def _between(self, host, door):
        """The boxes that a message of the host to this door passes, outwards."""
        return self._net.boxes_between(host, self._net.area_of(door[0]))

    def _told_by(self, host):
        """What this host tells to those who hear it now."""
        return tuple(self._knows[host]) if host in self._net.tellers else ()

    def _check_room(self, many):
        """Raise TooMany if there is no room for this many messages more."""
        if len(self._log) + many > MAX_MESSAGES:
            raise TooMany(MAX_MESSAGES)

    def _mark(self):
        """How much there is now of all that a call can add."""
        notes = {name: self._boxes[name].many_notes() for name in self._boxes}
        return (len(self._log), len(self._learned), notes)

    def _learn(self, host, door):
        """Let the host know the door."""
        if door not in self._knows[host]:
            self._knows[host][door] = True
            self._learned.append((host, door))

    def _bring_in(self, shown, door, told):
        """Let a message that has gone out arrive, or be lost, and put it into the log."""
        host, own = shown[0]
        hearer, source = way_in(self._boxes, shown, door)
        if hearer is not None:
            self._learn(hearer, source)
            for one in told:
                self._learn(hearer, one)
        self._log = (*self._log, (host, door, own, hearer, source))

    def __iter__(self):
        return iter(self._log)

    def __len__(self):
        return len(self._log)

    def __eq__(self, value):
        return (
            isinstance(value, LiveNet)
            and self._net == value._net
            and self._log == value._log
            and self._knows == value._knows
        )

    def __str__(self):
        return f"live net with {len(self._log)} messages"
