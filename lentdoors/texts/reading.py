"""Texts of nets, talks, sorts, tables and grids, read.

A function whose name ends with _in returns a list of the one thing that is in its text, or an empty list.
"""

from lentdoors.base.kinds import is_kind, is_name
from lentdoors.base.nets import Net
from lentdoors.errors import InvalidNet, ParseError
from lentdoors.live.talks import MAX_TALK, Talk
from lentdoors.texts.writing import are_names, grid_row

DIGITS = "0123456789"


def lines_of(text):
    """The list of the lines of a text."""
    if not isinstance(text, str):
        raise ParseError(0)
    return text.split("\n") if text else []


def parts_in(text):
    """The host, the area and the words in brackets, None without brackets, of the text of a sort."""
    head, bracket, rest = text.partition("(")
    host, _, area = head.partition("@")
    if not is_name(host) or not is_name(area) or (bracket and not rest.endswith(")")):
        return []
    return [(host, area, rest[:-1] if bracket else None)]


def flat_sort_in(text):
    """The sort with this text, if its key is None or an address."""
    return [(host, area, key) for host, area, key in parts_in(text) if key is None or is_name(key)]


def key_in(inner):
    """The key of a sort, by the words in the brackets of its text."""
    if inner is None or is_name(inner):
        return [inner]
    if inner.startswith("*"):
        return [(inner[1:],)] if is_name(inner[1:]) else []
    return flat_sort_in(inner)


def sort_in(text):
    """The sort with this text."""
    return [(host, area, key) for host, area, inner in parts_in(text) for key in key_in(inner)]


def is_box_line(words):
    """Whether these words are those of a line of a box."""
    if len(words) != 7 or words[0] != "box" or words[2] != "in":
        return False
    return is_name(words[1]) and is_name(words[3]) and is_kind(tuple(words[4:]))


def is_host_line(words):
    """Whether these words are those of a line of a host."""
    if words[0] != "host" or len(words) not in (4, 5) or words[2] != "in" or words[4:] not in ([], ["teller"]):
        return False
    return is_name(words[1]) and is_name(words[3])


def is_known_line(words):
    """Whether these words are those of a line of a host that knows another one."""
    return len(words) == 3 and words[0] == "known" and is_name(words[1]) and is_name(words[2])


def index_in(word, many):
    """The index of one of this many lines."""
    # Python does not read a number of thousands of digits, and no such number is needed.
    if not word or len(word) > len(str(many)) or not all([sign in DIGITS for sign in word]):
        return []
    if word != str(int(word)) or int(word) >= many:
        return []
    return [int(word)]


def door_in(word, many):
    """The door of a message that stands behind this many others."""
    if word.startswith("#"):
        return [("shown", index) for index in index_in(word[1:], many)]
    return [("own", word)] if is_name(word) else []


def message_in(line, many):
    """The message of a line that stands behind this many others."""
    words = line.split(" ")
    if len(words) != 3 or not is_name(words[0]) or words[1] != "to":
        return []
    return [(words[0], door) for door in door_in(words[2], many)]


def possession_in(line):
    """The host of a line of a table and the sort that it has, or None."""
    words = line.split(" ")
    if len(words) != 3 or not is_name(words[0]) or words[1] != "has":
        return []
    found = [None] if words[2] == "nothing" else sort_in(words[2])
    return [(words[0], sort) for sort in found]


def net_words(lines):
    """The list of the words of each line of a net."""
    rows = []
    starts = {}
    for at, line in enumerate(lines):
        words = line.split(" ")
        if not is_box_line(words) and not is_host_line(words) and not is_known_line(words):
            raise ParseError(at)
        # Pairs differ in their last words only.
        start = tuple(words) if words[0] == "known" else tuple(words[:2])
        if start in starts:
            raise ParseError(at)
        starts[start] = True
        rows.append(words)
    return rows


def form_of(key):
    """The form of a key of a sort; Python compares no keys of different forms."""
    if key is None:
        return "none"
    return "name" if isinstance(key, str) else "tuple"


def can_be_compared(sorts):
    """Whether Python can compare each two of these sorts."""
    forms = {}
    for host, area, key in sorts:
        keys = [((host, area), key)]
        if isinstance(key, tuple) and len(key) == 3:
            keys.append(((host, area, key[0], key[1]), key[2]))
        for place, one in keys:
            # Only sorts that are equal up to their keys are compared by these.
            if forms.setdefault(place, form_of(one)) != form_of(one):
                return False
    return True


def row_in(found):
    """The ascending tuple of the different sorts that the lines of one host tell, None for nothing."""
    if found == [None]:
        return [()]
    if None in found or not can_be_compared(found):
        return []
    return [tuple(sorted(found))]


def names_in(head):
    """The names of the first line of a grid."""
    names = tuple([head[at:at + 9].strip(" ") for at in range(8, len(head), 9)])
    return [names] if are_names(names) and grid_row("", names) == head else []


def cells_in(names, at, line):
    """The list of the marks and blanks in the line of a grid for the name with this index."""
    if at >= len(names):
        return []
    cells = [line[place] for place in range(16, len(line), 9)]
    if len(cells) != len(names) or not all([cell in ("x", ".") for cell in cells]):
        return []
    return [cells] if grid_row(names[at], cells) == line else []


def read_net(text):
    """The net with this text."""
    lines = lines_of(text)
    rows = net_words(lines)
    boxes = {words[1]: (words[3], tuple(words[4:])) for words in rows if words[0] == "box"}
    hosts = {words[1]: words[3] for words in rows if words[0] == "host"}
    tellers = sorted([words[1] for words in rows if words[0] == "host" and len(words) == 5])
    known = sorted([(words[1], words[2]) for words in rows if words[0] == "known"])
    try:
        return Net(boxes, hosts, tellers=tuple(tellers), known=tuple(known))
    except InvalidNet:
        raise ParseError(len(lines)) from None


def read_talk(text):
    """The talk with this text."""
    messages = []
    for at, line in enumerate(lines_of(text)):
        found = message_in(line, at)
        if not found:
            raise ParseError(at)
        messages.extend(found)
    if len(messages) > MAX_TALK:
        raise ParseError(len(messages))
    return Talk.of(tuple(messages))


def read_sort(text):
    """The sort with this text."""
    found = sort_in(text) if isinstance(text, str) else []
    if not found:
        raise ParseError(0)
    return found[0]


def read_table(text):
    """The table with this text."""
    lines = lines_of(text)
    has = {}
    earlier = {}
    for at, line in enumerate(lines):
        found = possession_in(line)
        if not found or line in earlier:
            raise ParseError(at)
        earlier[line] = True
        for host, sort in found:
            has.setdefault(host, []).append(sort)
    table = {}
    for host in sorted(has):
        rows = row_in(has[host])
        if not rows:
            raise ParseError(len(lines))
        table[host] = rows[0]
    return table


def read_grid(text):
    """The names and the pairs of a grid with the usual mark and blank."""
    lines = lines_of(text)
    if not lines:
        raise ParseError(0)
    heads = names_in(lines[0])
    if not heads:
        raise ParseError(0)
    names = heads[0]
    pairs = []
    for at, line in enumerate(lines[1:]):
        rows = cells_in(names, at, line)
        if not rows:
            raise ParseError(at + 1)
        pairs.extend([(names[at], other) for place, other in enumerate(names) if rows[0][place] == "x"])
    if len(lines) <= len(names):
        raise ParseError(len(lines))
    return (names, tuple(pairs))
