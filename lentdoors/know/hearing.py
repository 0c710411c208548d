"""Who can come to hear whom, and what shows it."""

from lentdoors.base.forms import is_pair
from lentdoors.base.nets import check_net, need
from lentdoors.errors import InvalidOperation, Unheard
from lentdoors.know.course import Course, talk_for
from lentdoors.know.sorts import Ground
from lentdoors.know.tables import is_closed_on, is_table_on, reading_of, tables_of
from lentdoors.live.talks import Talk, after


def check_pair(net, host, other):
    """Raise the errors for a net, and for what are not two different hosts of it."""
    check_net(net)
    need(net.hosts, host)
    need(net.hosts, other)
    if host == other:
        raise InvalidOperation("both are one host")


def is_hearing_talk(net, host, other, value):
    """Whether the value is a talk that fits the net and ends with a message from the other one to the host."""
    if not isinstance(value, Talk) or len(value) == 0 or value.messages()[-1][0] != other:
        return False
    live = after(net, value, None)
    return live is not None and live.log()[-1][3] == host


def is_barring_table(net, host, other, value):
    """Whether the value is a closed table in which the host hears no message of the other one."""
    if not is_table_on(Ground(net), value):
        return False
    reading = reading_of(net, value)
    if not is_closed_on(reading, net):
        return False
    return host not in [reading.read(other, sort)[0] for sort in reading.targets(other)]


def hears(net, host, other):
    """Whether the host can come to hear the other one."""
    check_pair(net, host, other)
    return (host, other) in Course(net, tuple(net)).first_heard


def hearing_paper(net, host, other):
    """A talk in which the host hears the other one, or a table which shows that it cannot."""
    check_pair(net, host, other)
    course = Course(net, tuple(net))
    if (host, other) in course.first_heard:
        return ("talk", talk_for(course, course.first_heard[(host, other)]))
    return ("table", tables_of(course)[-1])


def is_hearing_paper(net, host, other, value):
    """Whether the value is a hearing paper."""
    check_pair(net, host, other)
    if not is_pair(value):
        return False
    if value[0] == "talk":
        return is_hearing_talk(net, host, other, value[1])
    return value[0] == "table" and is_barring_table(net, host, other, value[1])


def talk_to(net, host, other):
    """A talk in which the host hears the other one."""
    word, found = hearing_paper(net, host, other)
    if word == "table":
        raise Unheard(found)
    return found


def is_line(course, one, other):
    """Whether the owners of two sorts can go on talking by them."""
    ground = course.reading.ground
    there = course.arrived.get((one[0], other), (None, None))
    back = course.arrived.get((other[0], one), (None, None))
    return (
        one[1] == other[1]
        and there[:2] == (other[0], one)
        and back[:2] == (one[0], other)
        and not (ground.single(one) and ground.single(other))
    )


def lines_in(course, host, other):
    """The lines of two hosts in the course of a net in which all hosts send."""
    has = course.reading.has
    pairs = [(one, two) for one in has[other] if one[0] == host for two in has[host] if two[0] == other]
    return tuple(sorted([pair for pair in pairs if is_line(course, *pair)]))


def lines(net, host, other):
    """The ascending tuple of the pairs of a sort of each host by which they can go on talking."""
    check_pair(net, host, other)
    return lines_in(Course(net, tuple(net)), host, other)
