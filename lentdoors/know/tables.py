"""Tables: which sorts of doors each host has."""

from lentdoors.base.nets import check_net, need
from lentdoors.errors import InvalidOperation, InvalidTable
from lentdoors.know.course import Course, Reading, known_at_first
from lentdoors.know.sorts import Ground, are_sorts, check_sort


def is_table_on(ground, value):
    """Whether the value is a dict from just the hosts to ascending tuples of sorts."""
    if not isinstance(value, dict) or len(value) != len(ground.own):
        return False
    return all([host in value and are_sorts(ground, value[host]) for host in ground.own])


def reading_of(net, table):
    """The reading of all messages in a table."""
    reading = Reading(net)
    for host in table:
        for sort in table[host]:
            reading.gain(host, sort, True)
    return reading


def learns_nothing(reading, net, host, sort):
    """Whether the host that hears a message to this sort, if any does, has all that it learns from it."""
    hearer, source, _ = reading.read(host, sort)
    if hearer is None:
        return True
    told = reading.has[host] if host in net.tellers else {}
    return source in reading.has[hearer] and all([one in reading.has[hearer] for one in told])


def is_closed_on(reading, net):
    """Whether the table of a reading is closed."""
    has = reading.has
    if not all([reading.ground.own[other] in has[host] for host, other in known_at_first(net)]):
        return False
    return all([learns_nothing(reading, net, host, sort) for host in has for sort in reading.targets(host)])


def tables_of(course):
    """The tables of a course: before the first round, and after each round that adds a sort."""
    has = course.reading.has
    return [
        {host: tuple(sorted([sort for sort in has[host] if course.cause(host, sort)[0] <= number])) for host in has}
        for number in range(course.last_round)
    ]


def is_table(net, value):
    """Whether the value is a table of the net."""
    check_net(net)
    return is_table_on(Ground(net), value)


def is_closed(net, value):
    """Whether the value is a closed table of the net."""
    return is_table(net, value) and is_closed_on(reading_of(net, value), net)


def read_message(net, table, host, sort):
    """The host that hears a message to this sort in the table, and the sort that it learns; or None twice."""
    check_net(net)
    ground = Ground(net)
    if not is_table_on(ground, table):
        raise InvalidTable("no table of the net")
    need(net.hosts, host)
    check_sort(ground, sort)
    if sort not in table[host] or not ground.reaches(host, sort):
        raise InvalidOperation("the host does not have the sort, or not its area")
    # Boxes look at what the host of the target has used, and at nothing else.
    reading = reading_of(net, {sort[0]: table[sort[0]]})
    return reading.read(host, sort)[:2]


def first_table(net):
    """The sorts of the doors that the hosts know at first."""
    check_net(net)
    own = Ground(net).own
    known = known_at_first(net)
    return {host: tuple(sorted([own[other] for one, other in known if one == host])) for host in net}


def rounds(net):
    """The tables before the first round, and after each round that adds a sort."""
    check_net(net)
    for table in tables_of(Course(net, tuple(net))):
        yield table


def least_table(net):
    """The least closed table."""
    check_net(net)
    return tables_of(Course(net, tuple(net)))[-1]
