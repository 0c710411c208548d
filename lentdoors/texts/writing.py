"""Texts of nets, talks, sorts, tables and grids, written."""

from lentdoors.base.forms import is_ascending, is_pair
from lentdoors.base.kinds import is_name
from lentdoors.base.nets import check_net
from lentdoors.errors import InvalidOperation, InvalidSort, InvalidTable
from lentdoors.live.talks import check_talk


def is_flat_sort(value):
    """Whether the value has the form of a sort whose key is None or an address."""
    if not isinstance(value, tuple) or len(value) != 3 or not is_name(value[0]) or not is_name(value[1]):
        return False
    return value[2] is None or is_name(value[2])


def is_sort_form(value):
    """Whether the value has the form of a sort of some net."""
    if not isinstance(value, tuple) or len(value) != 3 or not is_name(value[0]) or not is_name(value[1]):
        return False
    key = value[2]
    if isinstance(key, tuple) and len(key) == 1:
        return is_name(key[0])
    return is_flat_sort(value) or is_flat_sort(key)


def is_key_before(key, other):
    """Whether a key of a sort is less than another one; what Python cannot compare is not less."""
    if isinstance(key, str) and isinstance(other, str):
        return key < other
    if not isinstance(key, tuple) or not isinstance(other, tuple):
        return False
    # A tuple of just an address is less than a sort, or not, by this address alone.
    return is_before(key, other) if len(key) == len(other) == 3 else key < other


def is_before(sort, other):
    """Whether a value with the form of a sort is less than another one; what Python cannot compare is not less."""
    if sort[:2] != other[:2]:
        return sort[:2] < other[:2]
    return is_key_before(sort[2], other[2])


def are_sort_forms(value):
    """Whether the value is an ascending tuple of values with the form of sorts."""
    if not isinstance(value, tuple) or not all([is_sort_form(sort) for sort in value]):
        return False
    return all([is_before(value[at], value[at + 1]) for at in range(len(value) - 1)])


def is_table_form(value):
    """Whether the value is a dict from names to ascending tuples of values with the form of sorts."""
    return isinstance(value, dict) and all([is_name(name) and are_sort_forms(value[name]) for name in value])


def key_text(key):
    """The text of a key of a sort, with the brackets around it."""
    if key is None:
        return ""
    if isinstance(key, str):
        return f"({key})"
    return f"(*{key[0]})" if len(key) == 1 else f"({written_sort(key)})"


def written_sort(sort):
    """The text of a value with the form of a sort."""
    return sort[0] + "@" + sort[1] + key_text(sort[2])


def box_line(box, area, kind):
    """The line of a box."""
    return f"box {box} in {area} " + " ".join(kind)


def host_line(host, area, tells):
    """The line of a host."""
    return f"host {host} in {area} teller" if tells else f"host {host} in {area}"


def message_line(message):
    """The line of a message of a talk."""
    sender, (word, what) = message
    return f"{sender} to {what}" if word == "own" else f"{sender} to #{what}"


def host_lines(host, sorts):
    """The lines of a host in a table."""
    if not sorts:
        return [f"{host} has nothing"]
    return [f"{host} has " + written_sort(sort) for sort in sorts]


def grid_row(head, cells):
    """A line of a grid."""
    return head.ljust(8) + "".join([cell.rjust(9) for cell in cells])


def are_names(value):
    """Whether the value is an ascending tuple of names."""
    return isinstance(value, tuple) and all([is_name(name) for name in value]) and is_ascending(value)


def are_pairs_of(names, value):
    """Whether the value is an ascending tuple of pairs of these names."""
    if not isinstance(value, tuple) or not all([is_pair(pair) for pair in value]):
        return False
    return all([one in names and other in names for one, other in value]) and is_ascending(value)


def is_sign(value):
    """Whether the value is a string of one character that is neither a space nor a newline."""
    return isinstance(value, str) and len(value) == 1 and value not in (" ", "\n")


def net_text(net):
    """The text of a net."""
    check_net(net)
    lines = [box_line(box, area, kind) for box, (area, kind) in net.boxes.items()]
    lines.extend([host_line(host, net.area_of(host), host in net.tellers) for host in net])
    lines.extend([f"known {host} {other}" for host, other in net.known])
    return "\n".join(lines)


def talk_text(talk):
    """The text of a talk."""
    check_talk(talk)
    return "\n".join([message_line(message) for message in talk.messages()])


def sort_text(sort):
    """The text of a sort."""
    if not is_sort_form(sort):
        raise InvalidSort("no sort of any net")
    return written_sort(sort)


def table_text(table):
    """The text of a table."""
    if not is_table_form(table):
        raise InvalidTable("no table of any net")
    return "\n".join([line for host in sorted(table) for line in host_lines(host, table[host])])


def grid_text(names, pairs, *, mark="x", blank="."):
    """A text that shows for each two of these names whether the pair of them is one of these pairs."""
    if not are_names(names) or not are_pairs_of(names, pairs):
        raise InvalidOperation("no ascending tuple of names, or of pairs of them")
    if not is_sign(mark) or not is_sign(blank) or mark == blank:
        raise InvalidOperation("mark and blank are no two different characters")
    marked = {pair: True for pair in pairs}
    rows = [grid_row("", names)]
    for name in names:
        rows.append(grid_row(name, [mark if (name, other) in marked else blank for other in names]))
    return "\n".join(rows)
