"""What shows of many nets, of which some are looser than others, whether they fulfil wishes."""

from lentdoors.base.forms import holds, is_ascending, is_pair
from lentdoors.errors import InvalidOperation
from lentdoors.know.course import Course, talk_for
from lentdoors.know.hearing import is_barring_table, is_hearing_talk
from lentdoors.know.tables import tables_of


def is_wish(net, value):
    """Whether the value is a pair of two different hosts of the net."""
    return is_pair(value) and holds(net.hosts, value[0]) and holds(net.hosts, value[1]) and value[0] != value[1]


def check_wishes(net, value):
    """Raise InvalidOperation for what are no wishes of the net."""
    if not isinstance(value, tuple) or not all([is_wish(net, wish) for wish in value]) or not is_ascending(value):
        raise InvalidOperation("no ascending tuple of pairs of two hosts")


def unheard(net, wishes):
    """The list of the wishes that the net does not fulfil."""
    if not wishes:
        return []
    heard = Course(net, tuple(net)).first_heard
    return [wish for wish in wishes if wish not in heard]


def talks_for(net, wishes):
    """The tuple of a talk for each of these wishes, which the net fulfils."""
    course = Course(net, tuple(net))
    return tuple([talk_for(course, course.first_heard[wish]) for wish in wishes])


def table_for(net):
    """A closed table of the net, which shows of each wish that is not fulfilled that it is not."""
    return tables_of(Course(net, tuple(net)))[-1]


def are_talks_for(net, wishes, value):
    """Whether the value is a tuple of talks which show, in their order, that the net fulfils these wishes."""
    if not isinstance(value, tuple) or len(value) != len(wishes):
        return False
    return all([is_hearing_talk(net, host, other, value[at]) for at, (host, other) in enumerate(wishes)])


def is_bar(net, wishes, wish, table):
    """Whether these values are one of the wishes and a table which shows that the net does not fulfil it."""
    return wish in wishes and is_barring_table(net, wish[0], wish[1], table)


def sides(nets, wishes, covers):
    """The strictest items whose nets fulfil the wishes, and the loosest ones whose nets do not: two ascending lists.

    nets is a dict from items, in ascending order, to nets. covers(one, other) tells whether the net of the one item is
    at least as loose as that of the other one, which must not hold both ways.
    """
    fulfilling, failing = [], []
    for item in nets:
        # A looser net fulfils what a stricter one does, so most nets need not be asked.
        known = any([covers(item, one) for one in fulfilling]) or any([covers(one, item) for one in failing])
        if not known and unheard(nets[item], wishes):
            failing.append(item)
        elif not known:
            fulfilling.append(item)
    strictest = [one for one in fulfilling if not any([covers(one, two) for two in fulfilling if two != one])]
    loosest = [one for one in failing if not any([covers(two, one) for two in failing if two != one])]
    return (strictest, loosest)


def two_sided(nets, wishes, covers):
    """The pair of rows for the items of the two sides: each with talks, or with a wish and a table."""
    strictest, loosest = sides(nets, wishes, covers)
    return (
        tuple([(item, talks_for(nets[item], wishes)) for item in strictest]),
        tuple([(item, unheard(nets[item], wishes)[0], table_for(nets[item])) for item in loosest]),
    )


def are_rows(value, size, items):
    """Whether the value is a tuple of tuples of this size that begin with these items."""
    if not isinstance(value, tuple) or len(value) != len(items):
        return False
    return all([isinstance(row, tuple) and len(row) == size and row[0] == items[at] for at, row in enumerate(value)])


def is_two_sided(nets, wishes, covers, value):
    """Whether the value is such a pair of rows, with any right talks and tables."""
    if not is_pair(value):
        return False
    strictest, loosest = sides(nets, wishes, covers)
    if not are_rows(value[0], 2, strictest) or not are_rows(value[1], 3, loosest):
        return False
    return (
        all([are_talks_for(nets[item], wishes, talks) for item, talks in value[0]])
        and all([is_bar(nets[item], wishes, wish, table) for item, wish, table in value[1]])
    )
