"""Short talks: what is needed to reach a goal, and who."""

from lentdoors.base.forms import holds, is_ascending, is_pair
from lentdoors.base.kinds import is_integer
from lentdoors.base.nets import check_net
from lentdoors.errors import InvalidOperation, Unheard
from lentdoors.know.course import Course, talk_for
from lentdoors.know.sorts import Ground
from lentdoors.know.tables import tables_of
from lentdoors.live.nets import LiveNet
from lentdoors.live.talks import Talk, check_talk, reference, referring, sent


class Trial:
    """A talk that is sent in part, to see what is needed to reach a goal."""

    def __init__(self, net, talk, goal):
        host, what = goal
        self._messages = talk.messages()
        self._goal = goal
        self._ground = Ground(net)
        self._live = LiveNet(net)
        self._shown = {}
        self._at_first = what in [self._ground.sort_at(self._live, door) for door in self._live.knows(host)]
        self._reaching = {}

    def send(self, indices):
        """Send the messages with these indices; those that cannot be sent now are left out. The list of the others."""
        return [index for index in indices if self._send_one(index)]

    def _send_one(self, index):
        """Send the message with this index, if it can be sent; whether it was."""
        if not sent(self._live, self._messages[index], index, self._shown):
            return False
        if self._reaches_now():
            self._reaching[index] = True
        return True

    def _reaches_now(self):
        """Whether the goal is reached by the last message."""
        host, what = self._goal
        if isinstance(what, str):
            return self._live.log()[-1][3] == host and self._live.log()[-1][0] == what
        news = [door for one, door in self._live.news() if one == host]
        return what in [self._ground.sort_at(self._live, door) for door in news]

    def take_back(self, indices):
        """Take back the last messages that were sent, which are those with these indices."""
        self._live.back(many=len(indices))
        for index in indices:
            del self._shown[index]
            self._reaching.pop(index, None)

    def has_reached(self):
        """Whether the goal is reached by what is sent now."""
        return self._at_first or len(self._reaching) > 0


def is_goal_on(ground, value):
    """Whether the value is a goal of the net of this ground."""
    if not is_pair(value) or not holds(ground.own, value[0]):
        return False
    return ground.has_sort(value[1]) or (holds(ground.own, value[1]) and value[0] != value[1])


def check_goal(net, goal):
    """Raise InvalidOperation for what is no goal of the net."""
    if not is_goal_on(Ground(net), goal):
        raise InvalidOperation("no goal of the net")


def needed(net, talk, goal):
    """The ascending list of the indices whose part of a talk that reaches the goal is short for it."""
    trial = Trial(net, talk, goal)
    before = trial.send(list(range(len(talk))))
    kept = []
    # What is sent in addition never keeps a message from arriving, nor another one from being sent. So a message that
    # is needed beside all earlier ones is needed beside fewer, too, and one attempt for each is enough.
    while before:
        index = before.pop()
        trial.take_back([index])
        again = trial.send(kept)
        if not trial.has_reached():
            kept = [index, *kept]
        trial.take_back(again)
    return kept


def cause_of(course, goal):
    """The cause of the first time that a goal is reached in a course, or None."""
    host, what = goal
    return course.first_heard.get(goal) if isinstance(what, str) else course.reading.has[host].get(what)


def course_to(net, goal):
    """The course of a net in which the goal is reached."""
    check_net(net)
    check_goal(net, goal)
    course = Course(net, tuple(net))
    if cause_of(course, goal) is None:
        raise Unheard(tables_of(course)[-1])
    return course


def subsets(names):
    """The list of all subsets of an ascending tuple, as ascending tuples, each behind those that it contains."""
    found = [()]
    for name in names:
        found = found + [(*one, name) for one in found]
    return found


def is_goal(net, value):
    """Whether the value is a goal of the net."""
    check_net(net)
    return is_goal_on(Ground(net), value)


def reaches(net, talk, goal):
    """Whether the talk reaches the goal."""
    check_net(net)
    check_talk(talk)
    check_goal(net, goal)
    trial = Trial(net, talk, goal)
    return len(trial.send(list(range(len(talk))))) == len(talk) and trial.has_reached()


def part(talk, indices):
    """The talk that consists of the messages with these indices."""
    check_talk(talk)
    if not isinstance(indices, tuple) or not all([is_integer(index) for index in indices]) or not is_ascending(indices):
        raise InvalidOperation("no ascending tuple of integers")
    messages = [talk[index] for index in indices]
    places = {index: at for at, index in enumerate(indices)}
    if not all([reference(message) is None or reference(message) in places for message in messages]):
        raise InvalidOperation("a message refers to one that is left out")
    return Talk.of(tuple([referring(message, places) for message in messages]))


def is_short(net, talk, goal):
    """Whether the talk reaches the goal, and no part with fewer messages does."""
    return reaches(net, talk, goal) and len(needed(net, talk, goal)) == len(talk)


def shortened(net, talk, goal):
    """The indices of a part of the talk that is short for the goal."""
    if not reaches(net, talk, goal):
        raise InvalidOperation("the talk does not reach the goal")
    return tuple(needed(net, talk, goal))


def short_talk(net, goal):
    """A talk that is short for the goal."""
    course = course_to(net, goal)
    talk = talk_for(course, cause_of(course, goal))
    return part(talk, tuple(needed(net, talk, goal)))


def least_round(net, goal):
    """The number of the first round in which the goal is reached, or 0 if it is at first."""
    return cause_of(course_to(net, goal), goal)[0]


def crews(net, goal):
    """All crews for the goal."""
    course_to(net, goal)
    found = []
    for hosts in subsets(tuple(net)):
        has_crew = any([all([host in hosts for host in crew]) for crew in found])
        if not has_crew and cause_of(Course(net, hosts), goal) is not None:
            found.append(hosts)
    return tuple(sorted(found))
