"""Which arguments are a net, and which are none (stage 2, [0.7], [0.8], [0.9])."""

import itertools
import unittest

from lentdoors.base.nets import Net
from lentdoors.errors import DoorError, InvalidNet
from samples import DEEP_BOXES, DEEP_HOSTS, DEEP_KNOWN, ODD, OPEN, PAIR, STRICT

BOXES = {"left": ("open", OPEN), "near": ("left", STRICT)}
HOSTS = {"p": "near", "q": "left", "help": "open"}
TELLERS = ("help", "q")
KNOWN = (("p", "help"), ("p", "q"), ("q", "help"))


def is_net(boxes, hosts, tellers=(), known=()):
    try:
        Net(boxes, hosts, tellers=tellers, known=known)
    except InvalidNet:
        return False
    return True


def hashable(value):
    try:
        hash(value)
    except TypeError:
        return False
    return True


def places(value, way=()):
    """The ways to all places in a nest of tuples and dicts; the key of a dict is a place, too."""
    found = [way]
    if isinstance(value, tuple):
        for at, part in enumerate(value):
            found.extend(places(part, way + (at,)))
    if isinstance(value, dict):
        for key in value:
            found.append(way + (("key", key),))
            found.extend(places(value[key], way + (key,)))
    return found


def replaced(value, way, odd):
    """The value with an odd one at this place."""
    if not way:
        return odd
    step, rest = way[0], way[1:]
    if isinstance(value, tuple):
        return value[:step] + (replaced(value[step], rest, odd),) + value[step + 1:]
    if isinstance(step, tuple):
        return {(odd if key == step[1] else key): value[key] for key in value}
    return {key: (replaced(value[key], rest, odd) if key == step else value[key]) for key in value}


class Valid(unittest.TestCase):
    def test_plain_nets(self):
        self.assertTrue(is_net(BOXES, HOSTS, TELLERS, KNOWN))
        self.assertTrue(is_net(DEEP_BOXES, DEEP_HOSTS, ("a", "b", "c", "d"), DEEP_KNOWN))
        self.assertTrue(is_net({}, {"a": "open"}))

    def test_defaults_are_empty(self):
        net = Net(BOXES, HOSTS)
        self.assertEqual([net.tellers, net.known], [(), ()])
        self.assertEqual(net, Net(BOXES, HOSTS, known=(), tellers=()))

    def test_numbers_of_hosts(self):
        for many in range(9):
            hosts = {name: "open" for name in "abcdefghi"[:many]}
            self.assertEqual(is_net({}, hosts), 1 <= many <= 6, many)
            self.assertEqual(is_net({"x": ("open", OPEN)}, hosts), 1 <= many <= 6, many)

    def test_numbers_of_boxes(self):
        for many in range(8):
            boxes = {name: ("open", OPEN) for name in "abcdefgh"[:many]}
            self.assertEqual(is_net(boxes, {"x": "open"}), many <= 4, many)

    def test_boxes_one_behind_another(self):
        for many in range(1, 5):
            boxes = {}
            outer = "open"
            for name in "abcd"[:many]:
                boxes[name] = (outer, OPEN)
                outer = name
            self.assertEqual(is_net(boxes, {"x": "open"}), many <= 3, many)
            self.assertEqual(is_net(boxes, {"x": outer}), many <= 3, many)
            turned = {name: boxes[name] for name in reversed(sorted(boxes))}
            self.assertEqual(is_net(turned, {"x": "open"}), many <= 3, many)

    def test_all_placings_of_four_boxes(self):
        names = ("a", "b", "c", "d")
        for areas in itertools.product(names + ("open",), repeat=4):
            outer = dict(zip(names, areas))
            fits = True
            for name in names:
                steps, area = 0, name
                while area != "open" and steps < 10:
                    area, steps = outer[area], steps + 1
                fits = fits and steps <= 3
            boxes = {name: (outer[name], OPEN) for name in names}
            self.assertEqual(is_net(boxes, {"x": "open"}), fits, areas)

    def test_names_of_eight_letters(self):
        self.assertTrue(is_net({"abcdefgh": ("open", OPEN)}, {"zzzzzzzz": "abcdefgh"}))
        self.assertFalse(is_net({"abcdefghi": ("open", OPEN)}, {"a": "open"}))
        self.assertFalse(is_net({}, {"abcdefghi": "open"}))

    def test_order_of_keys_does_not_matter(self):
        boxes = {name: BOXES[name] for name in reversed(list(BOXES))}
        hosts = {name: HOSTS[name] for name in reversed(list(HOSTS))}
        self.assertEqual(Net(boxes, hosts, tellers=TELLERS, known=KNOWN),
                         Net(BOXES, HOSTS, tellers=TELLERS, known=KNOWN))


class Invalid(unittest.TestCase):
    def test_names(self):
        for name in ("", "A", "a1", "a b", "abcdefghi", "open", "_", None, 0, ("a",)):
            self.assertFalse(is_net({name: ("open", OPEN)}, {"x": "open"}), name)
            self.assertFalse(is_net({}, {name: "open"}), name)
            self.assertFalse(is_net({}, {"x": "open", name: "open"}), name)

    def test_one_name_twice(self):
        self.assertFalse(is_net({"a": ("open", OPEN)}, {"a": "open"}))
        self.assertFalse(is_net({"a": ("open", OPEN)}, {"a": "a", "b": "open"}))
        self.assertFalse(is_net(BOXES, {"x": "open", "near": "open"}))

    def test_areas_that_are_not_there(self):
        self.assertFalse(is_net({}, {"a": "left"}))
        self.assertFalse(is_net({"left": ("open", OPEN)}, {"a": "right"}))
        self.assertFalse(is_net({"left": ("right", OPEN)}, {"a": "open"}))
        self.assertFalse(is_net({}, {"a": "b", "b": "open"}))
        self.assertFalse(is_net({"left": ("a", OPEN)}, {"a": "open"}))

    def test_ways_that_do_not_lead_outwards(self):
        self.assertFalse(is_net({"a": ("a", OPEN)}, {"x": "open"}))
        self.assertFalse(is_net({"a": ("b", OPEN), "b": ("a", OPEN)}, {"x": "open"}))
        self.assertFalse(is_net({"a": ("b", OPEN), "b": ("c", OPEN), "c": ("a", OPEN)}, {"x": "open"}))
        self.assertFalse(is_net({"a": ("open", OPEN), "b": ("b", OPEN)}, {"x": "a"}))

    def test_tellers(self):
        for tellers in (("q", "help"), ("q", "q"), ("q", "x"), ("left",), ("open",), ["q"], {"q": True}, "q",
                        (("q",),), ("help", "p", "q", "q"), ("",), None, (None,), ("help", ["q"])):
            self.assertFalse(is_net(BOXES, HOSTS, tellers), tellers)
        for many in range(4):
            for tellers in itertools.permutations(("help", "p", "q"), many):
                self.assertEqual(is_net(BOXES, HOSTS, tellers), list(tellers) == sorted(tellers), tellers)

    def test_all_pairs(self):
        net = Net(DEEP_BOXES, DEEP_HOSTS)
        for host in list(DEEP_HOSTS) + ["inner", "open", "x"]:
            for other in list(DEEP_HOSTS) + ["inner", "open", "x"]:
                self.assertEqual(is_net(DEEP_BOXES, DEEP_HOSTS, (), ((host, other),)), (host, other) in DEEP_KNOWN)
        self.assertEqual(Net(DEEP_BOXES, DEEP_HOSTS, known=DEEP_KNOWN).known, DEEP_KNOWN)
        self.assertEqual(net.known, ())

    def test_known_of_one_area(self):
        hosts = {"a": "left", "b": "left"}
        for known in ((("a", "b"),), (("b", "a"),), (("a", "b"), ("b", "a"))):
            self.assertTrue(is_net(BOXES, hosts, (), known), known)
        self.assertFalse(is_net(BOXES, hosts, (), (("a", "a"),)))

    def test_known_out_of_order(self):
        for many in range(4):
            for known in itertools.permutations(KNOWN, many):
                self.assertEqual(is_net(BOXES, HOSTS, (), known), list(known) == sorted(known), known)
        self.assertFalse(is_net(BOXES, HOSTS, (), (KNOWN[0], KNOWN[0])))

    def test_known_of_wrong_forms(self):
        for known in ([("p", "q")], (["p", "q"],), (("p",),), (("p", "q", "help"),), ("pq",), (("p", None),),
                      (("p", ["q"]),), ((["p"], "q"),), {("p", "q"): True}, ("p", "q"), None, "pq", (("p", "q"), None)):
            self.assertFalse(is_net(BOXES, HOSTS, (), known), known)

    def test_boxes_of_wrong_forms(self):
        for place in (("open",), ("open", OPEN, OPEN), ["open", OPEN], "open", None, (OPEN, "open"),
                      ("open", list(OPEN)), ("open", OPEN[:2]), ("open", ("door", "source", "never")),
                      ("open",) + OPEN, (["open"], OPEN), ({}, OPEN), (None, OPEN), ("Open", OPEN)):
            self.assertFalse(is_net({"left": place}, {"x": "open"}), place)
        self.assertFalse(is_net((("left", ("open", OPEN)),), {"x": "open"}))
        self.assertFalse(is_net([], {"x": "open"}))

    def test_odd_values_at_any_place(self):
        arguments = (BOXES, HOSTS, TELLERS, KNOWN)
        empty = {(0,): {}, (2,): (), (3,): ()}
        tried = 0
        for way in places(arguments):
            for odd in ODD:
                is_key = bool(way) and isinstance(way[-1], tuple)
                if not way or (is_key and not hashable(odd)):
                    continue
                if len(way) == 1 and odd == empty.get(way):
                    continue
                tried += 1
                with self.assertRaises(InvalidNet, msg=(way, odd)):
                    boxes, hosts, tellers, known = replaced(arguments, way, odd)
                    Net(boxes, hosts, tellers=tellers, known=known)
        self.assertGreater(tried, 1000)

    def test_what_may_be_empty(self):
        self.assertTrue(is_net({}, {"a": "open"}, (), ()))
        self.assertFalse(is_net({}, {}))
        self.assertFalse(is_net(BOXES, {}))
        self.assertFalse(is_net((), {"a": "open"}))
        self.assertFalse(is_net({}, {"a": "open"}, {}, ()))
        self.assertFalse(is_net({}, {"a": "open"}, (), {}))

    def test_objects_of_the_package(self):
        for arguments in ((PAIR, PAIR), (PAIR, HOSTS), (BOXES, PAIR), (BOXES, HOSTS, PAIR), (BOXES, HOSTS, (), PAIR)):
            self.assertFalse(is_net(*arguments))

    def test_the_error_is_a_door_error(self):
        with self.assertRaises(DoorError):
            Net({}, {})

    def test_tellers_and_known_are_passed_by_keyword(self):
        with self.assertRaises(TypeError):
            Net(BOXES, HOSTS, TELLERS)


if __name__ == "__main__":
    unittest.main()
