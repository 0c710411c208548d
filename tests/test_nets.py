"""What is told of a net (stage 2, [0.2], [0.4])."""

import unittest

from lentdoors.base.nets import Net
from lentdoors.errors import InvalidOperation, UnknownName
from samples import CITY, DEEP, DEEP_BOXES, DEEP_HOSTS, DEEP_KNOWN, ODD, OPEN, PAIR, STRICT, TIGHT

WAYS = {
    "a": ("inner", "mid", "outer", "open"),
    "b": ("mid", "outer", "open"),
    "c": ("open",),
    "d": ("side", "open"),
    "inner": ("mid", "outer", "open"),
    "mid": ("outer", "open"),
    "outer": ("open",),
    "side": ("open",),
}
WRONG = ODD + ("open", "x", "abcdefgh")


class Properties(unittest.TestCase):
    def test_values(self):
        self.assertEqual(DEEP.boxes, DEEP_BOXES)
        self.assertEqual(DEEP.hosts, DEEP_HOSTS)
        self.assertEqual(DEEP.tellers, ("a", "c"))
        self.assertEqual(DEEP.known, DEEP_KNOWN)
        self.assertEqual(DEEP.areas, ("inner", "mid", "open", "outer", "side"))

    def test_areas(self):
        self.assertEqual(PAIR.areas, ("left", "open", "right"))
        self.assertEqual(Net({}, {"a": "open"}).areas, ("open",))
        self.assertEqual(Net({"z": ("open", OPEN), "a": ("z", OPEN)}, {"x": "z"}).areas, ("a", "open", "z"))

    def test_keys_are_ascending(self):
        boxes = {"z": ("open", OPEN), "m": ("z", STRICT), "a": ("m", OPEN)}
        net = Net(boxes, {"y": "a", "x": "open", "c": "z"})
        self.assertEqual(list(net.boxes.items()), sorted(boxes.items()))
        self.assertEqual(list(net.hosts.items()), [("c", "z"), ("x", "open"), ("y", "a")])

    def test_kinds_of_values(self):
        self.assertIs(type(DEEP.boxes), dict)
        self.assertIs(type(DEEP.hosts), dict)
        for value in (DEEP.tellers, DEEP.known, DEEP.areas):
            self.assertIs(type(value), tuple)

    def test_properties_are_not_assigned(self):
        for name in ("boxes", "hosts", "tellers", "known", "areas"):
            with self.assertRaises(AttributeError):
                setattr(DEEP, name, ())


class Copies(unittest.TestCase):
    def test_passed_dicts_are_copied(self):
        boxes, hosts = dict(DEEP_BOXES), dict(DEEP_HOSTS)
        net = Net(boxes, hosts, tellers=("a", "c"), known=DEEP_KNOWN)
        boxes["mid"] = ("open", STRICT)
        del boxes["inner"]
        hosts["a"] = "open"
        hosts["z"] = "open"
        self.assertEqual(net, DEEP)
        self.assertEqual(net.areas_of("a"), WAYS["a"])
        self.assertEqual(list(net), ["a", "b", "c", "d"])

    def test_returned_dicts_are_copies(self):
        net = Net(DEEP_BOXES, DEEP_HOSTS, tellers=("a", "c"), known=DEEP_KNOWN)
        net.boxes.clear()
        net.hosts.clear()
        net.boxes["mid"] = ("open", STRICT)
        net.hosts["a"] = "open"
        self.assertEqual(net, DEEP)
        self.assertEqual(net.boxes, DEEP_BOXES)
        self.assertEqual(net.hosts, DEEP_HOSTS)
        self.assertEqual(net.area_of("a"), "inner")

    def test_arguments_stay(self):
        boxes, hosts = dict(DEEP_BOXES), dict(DEEP_HOSTS)
        net = Net(boxes, hosts, known=DEEP_KNOWN)
        net.with_kind("mid", STRICT).without("a").without("inner").with_twin("b", "z")
        net.with_host("x", "open").with_known("c", "x").renamed({"a": "y"})
        self.assertEqual([boxes, hosts], [DEEP_BOXES, DEEP_HOSTS])


class Told(unittest.TestCase):
    def test_areas_of(self):
        for name, way in WAYS.items():
            self.assertEqual(DEEP.areas_of(name), way, name)

    def test_area_of(self):
        for name, way in WAYS.items():
            self.assertEqual(DEEP.area_of(name), way[0], name)

    def test_kind_of(self):
        for box, (_, kind) in DEEP_BOXES.items():
            self.assertEqual(DEEP.kind_of(box), kind, box)

    def test_hosts_in(self):
        found = {area: DEEP.hosts_in(area) for area in DEEP.areas}
        self.assertEqual(found, {
            "inner": ("a",), "mid": ("a", "b"), "outer": ("a", "b"), "side": ("d",), "open": ("a", "b", "c", "d"),
        })
        self.assertEqual(DEEP.without("d").hosts_in("side"), ())

    def test_boxes_between(self):
        for host in DEEP_HOSTS:
            for at, area in enumerate(WAYS[host]):
                self.assertEqual(DEEP.boxes_between(host, area), WAYS[host][:at], (host, area))
        self.assertEqual(DEEP.boxes_between("a", "open"), ("inner", "mid", "outer"))
        self.assertEqual(DEEP.boxes_between("a", "outer"), ("inner", "mid"))
        self.assertEqual(DEEP.boxes_between("c", "open"), ())

    def test_boxes_between_of_other_areas(self):
        for host in DEEP_HOSTS:
            for area in DEEP.areas:
                if area not in WAYS[host]:
                    with self.assertRaises(InvalidOperation):
                        DEEP.boxes_between(host, area)

    def test_examples(self):
        self.assertEqual(CITY.areas_of("b"), ("right", "open"))
        self.assertEqual(CITY.boxes_between("b", "open"), ("right",))
        self.assertEqual(CITY.hosts_in("right"), ("b", "c"))


class Unknown(unittest.TestCase):
    def refuses(self, name, call, *arguments):
        with self.assertRaises(UnknownName) as caught:
            call(*arguments)
        self.assertIs(caught.exception.name, name)

    def test_hosts_and_boxes(self):
        for value in WRONG:
            self.refuses(value, DEEP.area_of, value)
            self.refuses(value, DEEP.areas_of, value)

    def test_boxes(self):
        for value in WRONG + ("a", "d"):
            self.refuses(value, DEEP.kind_of, value)

    def test_areas(self):
        for value in WRONG + ("a", "d"):
            if value != "open":
                self.refuses(value, DEEP.hosts_in, value)

    def test_boxes_between(self):
        for value in WRONG + ("inner", "side"):
            for area in ("open", "side", "x", None):
                self.refuses(value, DEEP.boxes_between, value, area)
        for value in WRONG + ("a", "d"):
            if value != "open":
                self.refuses(value, DEEP.boxes_between, "b", value)


class Collection(unittest.TestCase):
    def test_in(self):
        for name in WAYS:
            self.assertIs(name in DEEP, True, name)
        for value in WRONG:
            self.assertIs(value in DEEP, False, value)
            self.assertIs(value not in DEEP, True, value)

    def test_len(self):
        self.assertEqual([len(DEEP), len(PAIR), len(CITY), len(Net({}, {"a": "open"}))], [4, 3, 4, 1])

    def test_iteration(self):
        net = Net({"m": ("open", OPEN)}, {"z": "m", "b": "open", "a": "m"})
        self.assertEqual(list(net), ["a", "b", "z"])
        self.assertEqual([name for name in net], sorted(net.hosts))
        self.assertEqual([(one, two) for one in net for two in net if one == two], [("a", "a"), ("b", "b"), ("z", "z")])

    def test_str(self):
        self.assertEqual(str(DEEP), "net of 4 hosts, 4 boxes")
        self.assertEqual(str(Net({}, {"a": "open"})), "net of 1 hosts, 0 boxes")
        self.assertEqual(str(Net({"b": ("open", OPEN)}, {"a": "open"})), "net of 1 hosts, 1 boxes")


class Equality(unittest.TestCase):
    def test_equal(self):
        self.assertIs(DEEP == Net(DEEP_BOXES, DEEP_HOSTS, tellers=("a", "c"), known=DEEP_KNOWN), True)
        self.assertIs(DEEP != Net(DEEP_BOXES, DEEP_HOSTS, tellers=("a", "c"), known=DEEP_KNOWN), False)
        self.assertIs(DEEP == DEEP, True)
        turned = Net(dict(reversed(list(DEEP_BOXES.items()))), DEEP_HOSTS, tellers=("a", "c"), known=DEEP_KNOWN)
        self.assertIs(DEEP == turned, True)

    def test_one_difference(self):
        others = (
            DEEP.with_kind("mid", STRICT),
            DEEP.with_teller("b"),
            DEEP.without("a"),
            DEEP.with_host("x", "open"),
            DEEP.renamed({"a": "x"}),
            DEEP.renamed({"side": "x"}),
            Net(DEEP_BOXES, {**DEEP_HOSTS, "d": "open"}, tellers=("a", "c"), known=DEEP_KNOWN),
            Net({**DEEP_BOXES, "side": ("outer", OPEN)}, DEEP_HOSTS, tellers=("a", "c"), known=DEEP_KNOWN),
            Net(DEEP_BOXES, DEEP_HOSTS, tellers=("a",), known=DEEP_KNOWN),
            Net(DEEP_BOXES, DEEP_HOSTS, tellers=("a", "c"), known=DEEP_KNOWN[1:]),
            PAIR, TIGHT,
        )
        for other in others:
            self.assertIs(DEEP == other, False, str(other))
            self.assertIs(other == DEEP, False, str(other))
            self.assertIs(DEEP != other, True, str(other))

    def test_every_value(self):
        for value in WRONG:
            self.assertIs(DEEP == value, False)
            self.assertIs(value == DEEP, False)
            self.assertIs(DEEP != value, True)


if __name__ == "__main__":
    unittest.main()
