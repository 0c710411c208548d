"""Values that several tests use."""

import random

from lentdoors.base.kinds import kinds
from lentdoors.base.nets import Net
from lentdoors.live.boxes import LiveBox
from lentdoors.live.nets import LiveNet
from lentdoors.live.talks import Talk

OPEN, STRICT = ("source", "address", "never"), ("door", "door", "never")
PAIR = Net(
    {"left": ("open", OPEN), "right": ("open", OPEN)},
    {"a": "left", "b": "right", "help": "open"},
    tellers=("help",),
    known=(("a", "help"), ("b", "help")),
)
TIGHT = PAIR.with_kind("left", STRICT).with_kind("right", STRICT)
CITY = Net(
    {"left": ("open", ("source", "door", "never")), "right": ("open", ("address", "any", "lent"))},
    {"a": "left", "b": "right", "c": "right", "help": "open"},
    tellers=("c", "help"),
    known=(("a", "help"), ("b", "help"), ("c", "help")),
)
# Three boxes one behind another, and one beside them.
DEEP_BOXES = {
    "inner": ("mid", STRICT),
    "mid": ("outer", OPEN),
    "outer": ("open", STRICT),
    "side": ("open", OPEN),
}
DEEP_HOSTS = {"a": "inner", "b": "mid", "c": "open", "d": "side"}
DEEP_KNOWN = (("a", "b"), ("a", "c"), ("b", "c"), ("d", "c"))
DEEP = Net(DEEP_BOXES, DEEP_HOSTS, tellers=("a", "c"), known=DEEP_KNOWN)
# In PAIR, a and b come to hear each other by this talk.
MEET = Talk(
    ("a", ("own", "help")), ("b", ("own", "help")), ("help", ("shown", 0)), ("a", ("shown", 1)),
    ("help", ("shown", 1)), ("b", ("shown", 0)),
)
# Here b learns the door of a before a learns that of b: the first messages from b to a are lost, later ones arrive.
LATE = Net(
    {"p": ("open", ("source", "any", "never")), "q": ("open", ("source", "door", "never"))},
    {"a": "q", "b": "p", "c": "p", "e": "open"}, tellers=("c", "e"), known=(("a", "e"), ("b", "c"), ("c", "e")),
)
KINDS = tuple(kinds())
NEVER = tuple(kinds(most=("source", "any", "never")))
# PAIR with one more host, in which nobody tells or knows anything at first, and what may help there.
BARE = Net(PAIR.boxes, {"a": "left", "aid": "open", "b": "right", "help": "open"})
HELPS = tuple([("known", host, other) for host in ("a", "b") for other in ("aid", "help")]) + (
    ("teller", "aid"), ("teller", "help"),
)


class Chooser:
    """Gives these values one after another, and keeps what it was asked."""

    def __init__(self, *values):
        self.values = list(values)
        self.asked = []

    def __call__(self, many):
        self.asked.append(many)
        return self.values.pop(0)


def random_net(chance, boxes=None, hosts=None, choice=KINDS):
    """A net of this chance (an object of random.Random), with so many boxes and hosts, and kinds of this choice."""
    places = {}
    for name in ("p", "q", "r", "s")[:chance.randint(0, 4) if boxes is None else boxes]:
        net = Net(places, {"x": "open"})
        outer = chance.choice([area for area in net.areas if area == "open" or len(net.areas_of(area)) < 3])
        places[name] = (outer, chance.choice(choice))
    names = ("a", "b", "c", "d", "e", "f")[:chance.randint(1, 6) if hosts is None else hosts]
    net = Net(places, {name: chance.choice(["open", *places]) for name in names})
    can = [(one, two) for two in names for one in net.hosts_in(net.area_of(two)) if one != two]
    known = sorted([pair for pair in can if chance.random() < 0.4])
    tellers = [name for name in names if chance.random() < 0.4]
    return Net(net.boxes, net.hosts, tellers=tuple(tellers), known=tuple(known))


def random_nets(seed, many, **more):
    """So many nets, the same ones for equal seeds."""
    chance = random.Random(seed)
    return [random_net(chance, **more) for _ in range(many)]


def helped_net(chance, boxes=3, hosts=3):
    """A net of this chance in which a teller in the open is known to all hosts, which stand behind boxes."""
    places = random_net(chance, boxes=boxes, hosts=1).boxes
    net = Net(places, {"help": "open"}, tellers=("help",))
    for name in ("a", "b", "c", "d", "e")[:hosts]:
        net = net.with_host(name, chance.choice(list(places))).with_known(name, "help")
        net = net.with_teller(name) if chance.random() < 0.2 else net
    return net


def wide_net(kind, other=None):
    """A net of four boxes and six hosts, three boxes one behind another; all boxes have this kind, or two have."""
    other = kind if other is None else other
    boxes = {"p": ("open", kind), "q": ("p", other), "r": ("q", kind), "s": ("open", other)}
    hosts = {"a": "r", "b": "q", "c": "p", "d": "s", "e": "s", "f": "open"}
    known = tuple([(host, "f") for host in "abcde"])
    return Net(boxes, hosts, tellers=("b", "c", "e", "f"), known=known)


def nested(value, many):
    """The value within this many tuples, lists and dicts by turns."""
    for turn in range(many):
        value = ((value,), [value], {"a": value})[turn % 3]
    return value


# Values of each form that the document lets callers pass, and none of which is a name, a door or a kind.
ODD = (
    None, True, False, 0, 1, -1, 10 ** 40 - 1, -(10 ** 39),
    "", "abcdefghi", "A", "a b", "a1", "a\n", "\n", "source address never",
    (), ("a",), ("a", "a"), ("a", -1), ("a", True), ("a", "0"), ("a", 0, 0), (0, "a"), ("A", 0),
    ("source", "address"), ("source", "address", "never", "never"), ("never", "address", "source"),
    [], ["a"], ["a", 0], ["source", "address", "never"], {}, {"a": 0}, {0: "source", 1: "any", 2: "never"},
    (["a"], {}), ([], [], []), ({}, {}, {}), nested("a", 10), nested((), 9), nested([], 10),
    PAIR, LiveBox("left", OPEN), (PAIR, 0), (PAIR, PAIR, PAIR), MEET, LiveNet(PAIR), (MEET, LiveNet(PAIR)),
)
NO_NETS = tuple([value for value in ODD if not isinstance(value, Net)]) + ("a", "open", ("a", 0))
