"""Nets that differ from a net by one change (stage 2, [0.4], [0.20], [0.21])."""

import unittest

from lentdoors.base.kinds import is_as_loose, kinds
from lentdoors.base.nets import Net
from lentdoors.errors import InvalidKind, InvalidOperation, UnknownName
from samples import CITY, DEEP, DEEP_BOXES, DEEP_HOSTS, DEEP_KNOWN, ODD, OPEN, PAIR, STRICT, TIGHT

WRONG = ODD + ("x", "abcdefgh")
LENT = ("address", "any", "lent")
SMALL = Net({"left": ("open", OPEN)}, {"a": "left", "b": "open"}, known=(("a", "b"),))


def copy_of(net):
    return Net(net.boxes, net.hosts, tellers=net.tellers, known=net.known)


class Changes(unittest.TestCase):
    """After each test, the nets that it changed are checked to have stayed as they were."""

    def setUp(self):
        self.kept = [(net, copy_of(net)) for net in (PAIR, TIGHT, CITY, DEEP, SMALL)]

    def tearDown(self):
        for net, kept in self.kept:
            self.assertEqual(net, kept)
            self.assertEqual(net.areas, kept.areas)
            self.assertEqual([net.areas_of(host) for host in net], [kept.areas_of(host) for host in kept])

    def unknown(self, name, call, *arguments):
        with self.assertRaises(UnknownName) as caught:
            call(*arguments)
        self.assertIs(caught.exception.name, name)

    def refused(self, error, call, *arguments):
        with self.assertRaises(error) as caught:
            call(*arguments)
        self.assertIs(type(caught.exception), error)


class WithKind(Changes):
    def test_result(self):
        net = DEEP.with_kind("mid", LENT)
        boxes = {**DEEP_BOXES, "mid": ("outer", LENT)}
        self.assertEqual(net, Net(boxes, DEEP_HOSTS, tellers=("a", "c"), known=DEEP_KNOWN))
        self.assertEqual([net.kind_of("mid"), DEEP.kind_of("mid")], [LENT, OPEN])

    def test_no_change(self):
        self.assertEqual(DEEP.with_kind("mid", OPEN), DEEP)

    def test_errors_in_their_order(self):
        for value in WRONG + ("a", "open"):
            self.unknown(value, DEEP.with_kind, value, OPEN)
            self.unknown(value, DEEP.with_kind, value, None)
        for value in ODD:
            self.refused(InvalidKind, DEEP.with_kind, "mid", value)


class WithTeller(Changes):
    def test_result(self):
        net = DEEP.with_teller("b")
        self.assertEqual(net, Net(DEEP_BOXES, DEEP_HOSTS, tellers=("a", "b", "c"), known=DEEP_KNOWN))
        self.assertEqual(PAIR.with_teller("b").with_teller("a").tellers, ("a", "b", "help"))

    def test_no_change(self):
        self.assertEqual(DEEP.with_teller("a"), DEEP)

    def test_errors(self):
        for value in WRONG + ("mid", "open"):
            self.unknown(value, DEEP.with_teller, value)


class WithKnown(Changes):
    def test_result(self):
        net = PAIR.with_host("c", "open").with_known("a", "c").with_known("help", "c")
        self.assertEqual(net.known, (("a", "c"), ("a", "help"), ("b", "help"), ("help", "c")))
        self.assertEqual(net, Net(
            PAIR.boxes, {**PAIR.hosts, "c": "open"}, tellers=("help",),
            known=(("a", "c"), ("a", "help"), ("b", "help"), ("help", "c")),
        ))

    def test_no_change(self):
        for host, other in DEEP_KNOWN:
            self.assertEqual(DEEP.with_known(host, other), DEEP)

    def test_unknown_names_in_their_order(self):
        for value in WRONG + ("mid", "open"):
            self.unknown(value, DEEP.with_known, value, "a")
            self.unknown(value, DEEP.with_known, value, "y")
            self.unknown(value, DEEP.with_known, value, None)
            self.unknown(value, DEEP.with_known, "c", value)

    def test_no_net(self):
        for host in DEEP:
            for other in DEEP:
                if (host, other) not in DEEP_KNOWN:
                    self.refused(InvalidOperation, DEEP.with_known, host, other)


class WithHost(Changes):
    def test_result(self):
        net = DEEP.with_host("bb", "inner")
        self.assertEqual(net, Net(DEEP_BOXES, {**DEEP_HOSTS, "bb": "inner"}, tellers=("a", "c"), known=DEEP_KNOWN))
        self.assertEqual(list(net), ["a", "b", "bb", "c", "d"])
        self.assertEqual(net.areas_of("bb"), ("inner", "mid", "outer", "open"))
        self.assertEqual(SMALL.with_host("c", "open").area_of("c"), "open")

    def test_errors_in_their_order(self):
        for value in WRONG + ("a", "d"):
            self.unknown(value, DEEP.with_host, "y", value)
            self.unknown(value, DEEP.with_host, "a", value)
            self.unknown(value, DEEP.with_host, None, value)
            self.unknown(value, DEEP.with_host, [], value)
        for value in ODD + ("a", "mid", "open"):
            self.refused(InvalidOperation, DEEP.with_host, value, "mid")
            self.refused(InvalidOperation, DEEP.with_host, value, "open")

    def test_too_many(self):
        net = DEEP.with_host("x", "open").with_host("y", "mid")
        self.assertEqual(len(net), 6)
        self.refused(InvalidOperation, net.with_host, "z", "open")


class WithBox(Changes):
    def test_result(self):
        net = SMALL.with_box("far", "left", LENT)
        boxes = {"far": ("left", LENT), "left": ("open", OPEN)}
        self.assertEqual(net, Net(boxes, SMALL.hosts, known=SMALL.known))
        self.assertEqual(net.areas_of("far"), ("left", "open"))
        self.assertEqual(SMALL.with_box("x", "open", STRICT).areas, ("left", "open", "x"))

    def test_errors_in_their_order(self):
        for value in WRONG + ("a", "b"):
            self.unknown(value, SMALL.with_box, "y", value, OPEN)
            self.unknown(value, SMALL.with_box, "y", value, None)
            self.unknown(value, SMALL.with_box, "a", value, None)
        for value in ODD:
            self.refused(InvalidKind, SMALL.with_box, "y", "left", value)
            self.refused(InvalidKind, SMALL.with_box, "a", "open", value)
            self.refused(InvalidKind, SMALL.with_box, [], "open", value)
        for value in ODD + ("a", "left", "open"):
            self.refused(InvalidOperation, SMALL.with_box, value, "open", OPEN)

    def test_too_many(self):
        self.refused(InvalidOperation, DEEP.with_box, "x", "open", OPEN)
        net = SMALL.with_box("one", "left", OPEN).with_box("two", "one", OPEN)
        self.refused(InvalidOperation, net.with_box, "three", "two", OPEN)
        self.assertEqual(net.with_box("three", "one", OPEN).areas_of("three"), ("one", "left", "open"))


class Without(Changes):
    def test_host(self):
        net = DEEP.without("c")
        hosts = {"a": "inner", "b": "mid", "d": "side"}
        self.assertEqual(net, Net(DEEP_BOXES, hosts, tellers=("a",), known=(("a", "b"),)))
        net = DEEP.without("a")
        hosts = {"b": "mid", "c": "open", "d": "side"}
        self.assertEqual(net, Net(DEEP_BOXES, hosts, tellers=("c",), known=(("b", "c"), ("d", "c"))))

    def test_host_of_no_pair(self):
        net = DEEP.with_host("x", "open")
        self.assertEqual(net.without("x"), DEEP)

    def test_box(self):
        net = DEEP.without("d").without("side")
        boxes = {box: DEEP_BOXES[box] for box in ("inner", "mid", "outer")}
        hosts = {"a": "inner", "b": "mid", "c": "open"}
        self.assertEqual(net, Net(boxes, hosts, tellers=("a", "c"), known=DEEP_KNOWN[:3]))

    def test_something_stands_behind_the_box(self):
        for box in DEEP_BOXES:
            self.refused(InvalidOperation, DEEP.without, box)
        empty = DEEP.without("a").without("b")
        for box in ("mid", "outer"):
            self.refused(InvalidOperation, empty.without, box)
        self.assertEqual(empty.without("inner").without("mid").without("outer").areas, ("open", "side"))

    def test_last_host(self):
        self.refused(InvalidOperation, Net({"left": ("open", OPEN)}, {"a": "open"}).without, "a")

    def test_unknown_name(self):
        for value in WRONG + ("open",):
            self.unknown(value, DEEP.without, value)


class WithTwin(Changes):
    def test_teller_that_is_known(self):
        net = PAIR.with_twin("help", "aid")
        self.assertEqual(net, Net(
            PAIR.boxes, {"a": "left", "aid": "open", "b": "right", "help": "open"}, tellers=("aid", "help"),
            known=(("a", "aid"), ("a", "help"), ("aid", "help"), ("b", "aid"), ("b", "help"), ("help", "aid")),
        ))

    def test_no_teller_that_knows(self):
        net = DEEP.with_twin("b", "z")
        self.assertEqual(net, Net(
            DEEP_BOXES, {**DEEP_HOSTS, "z": "mid"}, tellers=("a", "c"),
            known=(("a", "b"), ("a", "c"), ("a", "z"), ("b", "c"), ("b", "z"), ("d", "c"), ("z", "b"), ("z", "c")),
        ))

    def test_host_without_pairs(self):
        net = Net({}, {"a": "open", "b": "open"}).with_twin("a", "c")
        self.assertEqual(net, Net({}, {"a": "open", "b": "open", "c": "open"}, known=(("a", "c"), ("c", "a"))))

    def test_twin_of_a_twin(self):
        net = PAIR.with_twin("a", "c").with_twin("c", "d")
        self.assertEqual(net.known, (
            ("a", "c"), ("a", "d"), ("a", "help"), ("b", "help"), ("c", "a"), ("c", "d"), ("c", "help"),
            ("d", "a"), ("d", "c"), ("d", "help"),
        ))
        self.assertEqual([net.tellers, net.hosts["c"], net.hosts["d"]], [("help",), "left", "left"])

    def test_errors_in_their_order(self):
        for value in WRONG + ("mid", "open"):
            self.unknown(value, DEEP.with_twin, value, "y")
            self.unknown(value, DEEP.with_twin, value, "a")
            self.unknown(value, DEEP.with_twin, value, None)
        for value in ODD + ("a", "b", "mid", "open"):
            self.refused(InvalidOperation, DEEP.with_twin, "a", value)

    def test_too_many(self):
        net = DEEP.with_twin("a", "x").with_twin("a", "y")
        self.refused(InvalidOperation, net.with_twin, "a", "z")


class Renamed(Changes):
    def test_hosts_and_boxes(self):
        net = PAIR.renamed({"help": "aid", "left": "west", "b": "z"})
        self.assertEqual(net, Net(
            {"west": ("open", OPEN), "right": ("open", OPEN)}, {"a": "west", "z": "right", "aid": "open"},
            tellers=("aid",), known=(("a", "aid"), ("z", "aid")),
        ))

    def test_areas_of_boxes(self):
        net = DEEP.renamed({"mid": "m", "outer": "o"})
        self.assertEqual(net.areas_of("a"), ("inner", "m", "o", "open"))
        self.assertEqual(net.boxes, {
            "inner": ("m", STRICT), "m": ("o", OPEN), "o": ("open", STRICT), "side": ("open", OPEN),
        })

    def test_order_of_tellers_and_pairs(self):
        net = DEEP.renamed({"a": "z", "b": "y"})
        self.assertEqual([net.tellers, net.known], [("c", "z"), (("d", "c"), ("y", "c"), ("z", "c"), ("z", "y"))])

    def test_names_change_places(self):
        net = CITY.renamed({"a": "b", "b": "a"})
        self.assertEqual(net.hosts, {"a": "right", "b": "left", "c": "right", "help": "open"})
        net = PAIR.renamed({"left": "right", "right": "left"})
        self.assertEqual([net.hosts["a"], net.hosts["b"]], ["right", "left"])
        net = PAIR.renamed({"left": "a", "a": "left"})
        self.assertEqual([net.boxes["a"], net.hosts["left"]], [("open", OPEN), "a"])

    def test_no_change(self):
        self.assertEqual(DEEP.renamed({}), DEEP)
        self.assertEqual(DEEP.renamed({"a": "a", "mid": "mid"}), DEEP)
        self.assertEqual(DEEP.renamed({name: name for name in [*DEEP.hosts, *DEEP.boxes]}), DEEP)

    def test_back_again(self):
        there = {"a": "aa", "b": "bb", "inner": "i", "outer": "outermos"}
        back = {new: name for name, new in there.items()}
        self.assertEqual(DEEP.renamed(there).renamed(back), DEEP)

    def test_dict_stays(self):
        names = {"b": "x", "a": "y"}
        DEEP.renamed(names)
        self.assertEqual(list(names.items()), [("b", "x"), ("a", "y")])

    def test_no_such_dict(self):
        for value in ODD:
            if value != {}:
                self.refused(InvalidOperation, DEEP.renamed, value)
            self.refused(InvalidOperation, DEEP.renamed, {"a": value})
        for key in ("x", "open", "A", "", None, 0, True, ("a",), ("a", 0)):
            self.refused(InvalidOperation, DEEP.renamed, {key: "y"})
            self.refused(InvalidOperation, DEEP.renamed, {"a": "y", key: "z"})
        self.refused(InvalidOperation, DEEP.renamed, (("a", "x"),))

    def test_no_net(self):
        for names in ({"a": "b"}, {"a": "mid"}, {"mid": "a"}, {"mid": "outer"}, {"a": "x", "b": "x"},
                      {"a": "x", "mid": "x"}, {"a": "open"}, {"mid": "open"}, {"a": "b", "b": "c"}):
            self.refused(InvalidOperation, DEEP.renamed, names)


class IsWithin(Changes):
    def test_itself(self):
        for net in (PAIR, TIGHT, CITY, DEEP):
            self.assertIs(net.is_within(net), True)
            self.assertIs(net.is_within(copy_of(net)), True)

    def test_kinds(self):
        for kind in kinds():
            for other in kinds():
                one, two = DEEP.with_kind("mid", kind), DEEP.with_kind("mid", other)
                self.assertIs(one.is_within(two), is_as_loose(other, kind), (kind, other))

    def test_one_box_looser_and_one_stricter(self):
        one = PAIR.with_kind("left", STRICT)
        two = PAIR.with_kind("right", STRICT)
        self.assertEqual([one.is_within(two), two.is_within(one)], [False, False])
        self.assertEqual([TIGHT.is_within(one), one.is_within(PAIR)], [True, True])

    def test_tellers(self):
        more = DEEP.with_teller("b")
        self.assertEqual([DEEP.is_within(more), more.is_within(DEEP)], [True, False])

    def test_pairs(self):
        less = Net(DEEP_BOXES, DEEP_HOSTS, tellers=("a", "c"), known=DEEP_KNOWN[1:])
        self.assertEqual([less.is_within(DEEP), DEEP.is_within(less)], [True, False])

    def test_other_hosts_and_boxes(self):
        others = (
            DEEP.with_host("x", "open"),
            DEEP.without("d"),
            DEEP.without("d").without("side"),
            DEEP.renamed({"a": "x"}),
            DEEP.renamed({"side": "x"}),
            Net(DEEP_BOXES, {**DEEP_HOSTS, "d": "open"}, tellers=("a", "c"), known=DEEP_KNOWN),
            Net({**DEEP_BOXES, "side": ("outer", OPEN)}, {**DEEP_HOSTS}, tellers=("a", "c"), known=DEEP_KNOWN),
            DEEP.renamed({"side": "d", "d": "side"}),
        )
        for other in others:
            self.assertIs(DEEP.is_within(other), False, str(other))
            self.assertIs(other.is_within(DEEP), False, str(other))

    def test_host_in_the_place_of_a_box(self):
        one = Net({"x": ("open", OPEN)}, {"a": "open", "y": "open"})
        two = Net({"y": ("open", OPEN)}, {"a": "open", "x": "open"})
        self.assertEqual([one.is_within(two), two.is_within(one)], [False, False])

    def test_no_net(self):
        for value in ODD + (DEEP.boxes, DEEP.hosts, "net"):
            if not isinstance(value, Net):
                self.refused(InvalidOperation, DEEP.is_within, value)


if __name__ == "__main__":
    unittest.main()
