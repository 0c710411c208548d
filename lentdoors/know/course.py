"""The rounds of a net: what is heard and learned in them, and from which messages."""

from lentdoors.know.sorts import Ground
from lentdoors.live.talks import Talk

LOST = (None, None, ())


def known_at_first(net):
    """The list of the pairs of a host and one whose door 0 it knows at first, its own one included."""
    return [(host, host) for host in net] + list(net.known)


class Reading:
    """How messages are read when hosts have some sorts and have used all of them that they can."""

    def __init__(self, net):
        self.ground = Ground(net)
        self.has = {host: {} for host in net}
        self._boxes = net.boxes
        # For each box and each sort of doors that it lends: the used sorts, and the first one for each address.
        self._noted = {}

    def gain(self, host, sort, worth):
        """Give the host one more sort, with a worth that is kept beside it; the boxes on its way note the use."""
        ground = self.ground
        self.has[host][sort] = worth
        for box in ground.boxes_of(host):
            outer = self._boxes[box][0]
            if sort[1] in ground.outwards[outer]:
                noted = self._noted.setdefault((box, ground.source(host, sort, outer)), {})
                noted[sort] = sort
                noted.setdefault(ground.place(sort), sort)

    def targets(self, host):
        """The list of the sorts to which the host can send a message."""
        return [sort for sort in self.has[host] if self.ground.reaches(host, sort)]

    def read(self, host, target):
        """The host that hears a message to this sort, the sort that it learns, and the used sorts that boxes found."""
        ground = self.ground
        source = ground.source(host, target, target[1])
        way = ground.between[target[:2]]
        # The last box through which the message goes out is the one that has lent the target.
        if way and way[-1] in ground.between[(host, target[1])]:
            turning = self._boxes[way[-1]][1][2]
            if turning == "never":
                return LOST
            if turning == "inner":
                source = ground.source(host, target, way[-1])
                way = way[:-1]
        uses = []
        for box in way[::-1]:
            if self._boxes[box][1][1] != "any":
                use = self._use(box, target, source)
                if use is None:
                    return LOST
                uses.append((target[0], use))
        return (target[0], source, tuple(uses))

    def _use(self, box, target, source):
        """The used sort for which a box that looks lets in a message to the target, or None."""
        ground = self.ground
        outer, kind = self._boxes[box]
        noted = self._noted.get((box, ground.cut(target, outer)), {})
        if kind[1] == "address":
            return noted.get(ground.place(source))
        return None if ground.single(source) else noted.get(source)


class Course:
    """All rounds of a net in which only some hosts send, up to the first one that adds no sort.

    A cause is a tuple of a round, the sender and the target of a message that arrives in it, and the sort that is
    learned from it, which is not its source if it is told. For what is known at first the round is 0.
    """

    def __init__(self, net, senders):
        self.reading = Reading(net)
        self.last_round = 0
        # What Reading.read tells of each message that arrives; for each pair of a host and one that it hears, the
        # cause of the first time, with None in the place of a sort.
        self.arrived = {}
        self.first_heard = {}
        self._senders = senders
        self._tellers = net.tellers
        self._waiting = []
        own = self.reading.ground.own
        self._fresh = self._gain([(host, own[other], (0, None, None, None)) for host, other in known_at_first(net)])
        while self._fresh:
            self.last_round += 1
            self._run()

    def cause(self, host, sort):
        """The cause of the first time that a host learns a sort that it has in the end."""
        return self.reading.has[host][sort]

    def _gain(self, gains):
        """Give hosts what they learn; the list of what is new to them."""
        fresh = []
        for host, sort, cause in gains:
            if sort not in self.reading.has[host]:
                self.reading.gain(host, sort, cause)
                fresh.append((host, sort))
        self._waiting.extend([one for one in fresh if one[0] in self._senders and self.reading.ground.reaches(*one)])
        return fresh

    def _run(self):
        """Run one round: all of it is read before anything is learned."""
        gains = []
        for hearer, sender in self.first_heard:
            # A teller that was heard is heard again, and has told all but its last sorts before.
            told = [sort for host, sort in self._fresh if host == sender and host in self._tellers]
            gains.extend(self._causes(hearer, sender, self.first_heard[(hearer, sender)][2], told))
        lost = []
        for sender, target in self._waiting:
            found = self.reading.read(sender, target)
            if found == LOST:
                lost.append((sender, target))
            else:
                self.arrived[(sender, target)] = found
                gains.extend(self._first_gains(sender, target, found))
        # What was lost may arrive later, when more has been used.
        self._waiting = lost
        self._fresh = self._gain(gains)

    def _first_gains(self, sender, target, found):
        """What is learned from a message that arrives for the first time; note that it is heard."""
        hearer, source, _ = found
        learned = [source]
        if (hearer, sender) not in self.first_heard:
            self.first_heard[(hearer, sender)] = (self.last_round, sender, target, None)
            if sender in self._tellers:
                learned.extend(list(self.reading.has[sender]))
        return self._causes(hearer, sender, target, learned)

    def _causes(self, hearer, sender, target, learned):
        """The hearer with each sort that it learns from a message of this round, and with the cause."""
        return [(hearer, sort, (self.last_round, sender, target, sort)) for sort in learned]


def steps_for(course, cause):
    """What has to be sent in a course for this cause, in the order of sending.

    A step is a tuple of a round, 1 for a message that has to arrive and 0 for one that only has to be used ahead of
    those of its round, its sender and its target.
    """
    steps = {}
    done = {}
    queue = [cause]
    while queue:
        cause = queue.pop()
        number, sender, target, sort = cause
        if number > 0 and cause not in done:
            done[cause] = True
            _, source, uses = course.arrived[(sender, target)]
            steps[(number, 1, sender, target)] = True
            queue.append(course.cause(sender, target))
            for host, used in uses:
                steps[(number, 0, host, used)] = True
                queue.append(course.cause(host, used))
            if sort is not None and sort != source:
                queue.append(course.cause(sender, sort))
    return sorted(steps)


def door_in(course, host, sort, places):
    """How a talk writes the door of this sort that the host learns first, if places tells where messages stand."""
    number, sender, target, _ = course.cause(host, sort)
    while number > 0 and course.arrived[(sender, target)][1] != sort:
        number, sender, target, _ = course.cause(sender, sort)
    return ("shown", places[(number, sender, target)]) if number > 0 else ("own", sort[0])


def talk_for(course, cause):
    """A talk in which what this cause tells comes about, by its last message if it is not so at first."""
    messages = []
    places = {}
    sent = {}
    for number, arrives, sender, target in steps_for(course, cause):
        if arrives or (sender, target) not in sent:
            sent[(sender, target)] = True
            places[(number, sender, target)] = len(messages)
            messages.append((sender, door_in(course, sender, target, places)))
    return Talk.of(tuple(messages))
