"""Values that several tests use."""

from lentdoors.base.nets import Net
from lentdoors.live.boxes import LiveBox

OPEN, STRICT = ("source", "address", "never"), ("door", "door", "never")
PAIR = Net(
    {"left": ("open", OPEN), "right": ("open", OPEN)},
    {"a": "left", "b": "right", "help": "open"},
    tellers=("help",),
    known=(("a", "help"), ("b", "help")),
)
TIGHT = PAIR.with_kind("left", STRICT).with_kind("right", STRICT)
CITY = Net(
    {"left": ("open", ("source", "door", "never")), "right": ("open", ("address", "any", "lent"))},
    {"a": "left", "b": "right", "c": "right", "help": "open"},
    tellers=("c", "help"),
    known=(("a", "help"), ("b", "help"), ("c", "help")),
)
# Three boxes one behind another, and one beside them.
DEEP_BOXES = {
    "inner": ("mid", STRICT),
    "mid": ("outer", OPEN),
    "outer": ("open", STRICT),
    "side": ("open", OPEN),
}
DEEP_HOSTS = {"a": "inner", "b": "mid", "c": "open", "d": "side"}
DEEP_KNOWN = (("a", "b"), ("a", "c"), ("b", "c"), ("d", "c"))
DEEP = Net(DEEP_BOXES, DEEP_HOSTS, tellers=("a", "c"), known=DEEP_KNOWN)


def nested(value, many):
    """The value within this many tuples, lists and dicts by turns."""
    for turn in range(many):
        value = ((value,), [value], {"a": value})[turn % 3]
    return value


# Values of each form that the document lets callers pass, and none of which is a name, a door or a kind.
ODD = (
    None, True, False, 0, 1, -1, 10 ** 40 - 1, -(10 ** 39),
    "", "abcdefghi", "A", "a b", "a1", "a\n", "\n", "source address never",
    (), ("a",), ("a", "a"), ("a", -1), ("a", True), ("a", "0"), ("a", 0, 0), (0, "a"), ("A", 0),
    ("source", "address"), ("source", "address", "never", "never"), ("never", "address", "source"),
    [], ["a"], ["a", 0], ["source", "address", "never"], {}, {"a": 0}, {0: "source", 1: "any", 2: "never"},
    (["a"], {}), ([], [], []), ({}, {}, {}), nested("a", 10), nested((), 9), nested([], 10),
    PAIR, LiveBox("left", OPEN), (PAIR, 0), (PAIR, PAIR, PAIR),
)
