"""Sorts of doors (stage 8, [0.17], [0.18], [8.1], [8.2])."""

import random
import unittest

from lentdoors.base.nets import Net
from lentdoors.chain.chains import chain_of
from lentdoors.errors import InvalidDoor, InvalidNet, InvalidOperation, InvalidSort, UnknownName
from lentdoors.know.sorts import (
    address_of, grade, is_single, is_sort, live_sort, own_sort, sorts, source_sort, used_sorts,
)
from lentdoors.live.nets import LiveNet
from samples import CITY, DEEP, KINDS, MEET, NO_NETS, ODD, OPEN, PAIR, STRICT, TIGHT, nested, random_nets

# One host behind boxes by source, one behind boxes by address, one behind boxes by door, in three steps.
STEPS = Net(
    {"one": ("two", ("address", "any", "never")), "two": ("three", ("source", "door", "never")),
     "three": ("open", ("door", "address", "never")), "side": ("open", ("address", "door", "never"))},
    {"a": "one", "b": "two", "c": "three", "s": "side", "x": "open"},
)
NETS = (PAIR, TIGHT, CITY, DEEP, STEPS)


def all_sorts(net):
    return [sort for host in net for area in net.areas_of(host) for sort in sorts(net, host, area)]


def outwards(net, area):
    """The area, and all areas further out."""
    return (area,) if area == "open" else (area, *net.areas_of(area))


def keys(net, host, area):
    """The keys of [8.1], in their order."""
    out = outwards(net, area)
    lendings = [net.kind_of(box)[0] for box in net.boxes_between(host, area)]
    boxes = [box for box in net.boxes if net.area_of(box) in out]
    if "door" in lendings:
        far = [(other, place) for place in out for other in net.hosts_in(place)]
        inner = [(*one, key) for one in far if grade(net, *one) != "door" for key in keys(net, *one)]
        return sorted(inner + [(box,) for box in boxes])
    if "address" in lendings:
        return sorted(boxes + [other for other in net if net.area_of(other) in out])
    return [None]


def unknown(case, value, call, *arguments, **more):
    with case.assertRaises(UnknownName) as caught:
        call(*arguments, **more)
    case.assertIs(caught.exception.name, value)


def refused(case, error, call, *arguments, **more):
    with case.assertRaises(error) as caught:
        call(*arguments, **more)
    case.assertIs(type(caught.exception), error)


class Sorts(unittest.TestCase):
    def test_each_grade(self):
        self.assertEqual(list(sorts(STEPS, "a", "one")), [("a", "one", None)])
        self.assertEqual(list(sorts(STEPS, "b", "three")), [("b", "three", None)])
        for host, area, names in (
            ("a", "two", ["b", "c", "one", "side", "three", "two", "x"]),
            ("a", "three", ["c", "side", "three", "two", "x"]), ("s", "open", ["side", "three", "x"]),
        ):
            self.assertEqual(list(sorts(STEPS, host, area)), [(host, area, name) for name in names])
        expected = [("side",), ("three",), ("s", "open", "side"), ("s", "open", "three"), ("s", "open", "x"),
                    ("x", "open", None)]
        for host in "abc":
            self.assertEqual(list(sorts(STEPS, host, "open")), [(host, "open", key) for key in sorted(expected)])

    def test_single_sorts_further_in(self):
        net = Net({"p": ("open", OPEN), "q": ("p", STRICT)}, {"a": "q", "b": "p", "x": "open"})
        self.assertEqual([key for _, _, key in sorts(net, "a", "p")], [
            ("b", "open", None), ("b", "p", None), ("p",), ("q",), ("x", "open", None),
        ])
        self.assertEqual([key for _, _, key in sorts(net, "a", "open")], [
            ("b", "open", None), ("p",), ("x", "open", None),
        ])

    def test_against_the_words(self):
        for net in NETS + tuple(random_nets(41, 60)):
            for host in net:
                for area in net.areas_of(host):
                    found = list(sorts(net, host, area))
                    self.assertEqual(found, [(host, area, key) for key in keys(net, host, area)])
                    self.assertEqual(found, sorted(set(found)))

    def test_errors_come_with_the_first_value(self):
        for value in NO_NETS:
            refused(self, InvalidNet, next, sorts(value, None, None))
        for value in ODD + ("z", "left", "open"):
            unknown(self, value, next, sorts(PAIR, value, "z"))
        for value in ODD + ("z", "a"):
            unknown(self, value, next, sorts(PAIR, "a", value))
        refused(self, InvalidOperation, next, sorts(PAIR, "a", "right"))
        refused(self, InvalidOperation, next, sorts(PAIR, "help", "left"))


class Judging(unittest.TestCase):
    def test_all_sorts_and_no_others(self):
        for net in NETS:
            found = all_sorts(net)
            self.assertEqual([sort for sort in found if is_sort(net, sort) is not True], [])
            single = [sort for sort in found if is_single(net, sort)]
            self.assertEqual(single, [sort for sort in found if grade(net, *sort[:2]) == "door"])
            names = ["open", "z", *net, *net.boxes]
            known, keyed = set(found), [None, *names, *[(name,) for name in names], *found]
            for host in names:
                for area in names:
                    for key in keyed:
                        value = (host, area, key)
                        self.assertIs(is_sort(net, value), value in known, value)

    def test_values_near_to_sorts(self):
        for net in NETS:
            for sort in all_sorts(net):
                near = [
                    sort + (None,), sort[:2], list(sort), sort[::-1], (sort,), nested(sort, 1), (*sort[:2], [sort[2]]),
                    (*sort[:2], (sort[2],)), (*sort[:2], sort), (*sort[:2], ()), (*sort[:2], (sort[2], sort[2])),
                ]
                for value in near:
                    expected = value[2] in keys(net, *sort[:2]) if value[:2] == sort[:2] and len(value) == 3 else False
                    self.assertIs(is_sort(net, value), expected, value)
                for value in ODD:
                    for wrong in ((value, *sort[1:]), (sort[0], value, sort[2]), (*sort[:2], (value,)),
                                  (*sort[:2], (value, value, value)), (*sort[:2], value)):
                        self.assertIs(is_sort(net, wrong), wrong == sort, wrong)
                        self.assertIs(is_single(net, wrong), wrong == sort and is_single(net, sort), wrong)

    def test_every_value(self):
        for value in ODD + ("a", ("a", "open"), MEET, nested("a", 10)):
            for call in (is_sort, is_single):
                self.assertIs(call(PAIR, value), False)

    def test_errors(self):
        for value in NO_NETS:
            for call in (is_sort, is_single):
                refused(self, InvalidNet, call, value, ("a", "left", None))

    def test_examples(self):
        self.assertIs(is_sort(TIGHT, ("a", "open", ("help", "open", None))), True)
        self.assertIs(is_sort(TIGHT, ("a", "open", ("b", "open", ("left",)))), False)
        self.assertIs(is_sort(TIGHT, ("a", "open", ("b", "right", None))), False)
        self.assertIs(is_sort(TIGHT, ("a", "open", ("help",))), False)
        self.assertIs(is_sort(TIGHT, ("a", "open", ("right",))), True)
        self.assertIs(is_single(TIGHT, ("a", "open", ("right",))), True)
        self.assertIs(is_single(TIGHT, ("a", "left", None)), False)
        self.assertIs(is_sort(CITY, ("b", "open", "a")), False)


class Simple(unittest.TestCase):
    def test_own_sort(self):
        for net in NETS:
            for host in net:
                self.assertEqual(own_sort(net, host), (host, net.area_of(host), None))

    def test_grade(self):
        self.assertEqual([grade(STEPS, "a", area) for area in ("one", "two", "three", "open")],
                         ["source", "address", "address", "door"])
        self.assertEqual([grade(STEPS, "b", area) for area in ("two", "three", "open")], ["source", "source", "door"])
        self.assertEqual([grade(STEPS, "s", "open"), grade(STEPS, "x", "open")], ["address", "source"])
        for net in random_nets(43, 40):
            for host in net:
                for area in net.areas_of(host):
                    self.assertEqual(grade(net, host, area), chain_of(net, host, area)[0])

    def test_address_of(self):
        expected = {("a", "one"): "a", ("a", "two"): "one", ("a", "three"): "two", ("a", "open"): "three",
                    ("b", "two"): "b", ("b", "three"): "two", ("b", "open"): "three", ("c", "three"): "c",
                    ("c", "open"): "three", ("s", "side"): "s", ("s", "open"): "side", ("x", "open"): "x"}
        for sort in all_sorts(STEPS):
            self.assertEqual(address_of(STEPS, sort), expected[sort[:2]])

    def test_errors_in_their_order(self):
        for value in NO_NETS:
            refused(self, InvalidNet, own_sort, value, None)
            refused(self, InvalidNet, grade, value, None, None)
            refused(self, InvalidNet, address_of, value, None)
        for value in ODD + ("z", "left", "open"):
            unknown(self, value, own_sort, PAIR, value)
            unknown(self, value, grade, PAIR, value, "z")
        for value in ODD + ("z", "b"):
            unknown(self, value, grade, PAIR, "a", value)
        for value in ODD + ("a", ("a", "right", None), ("a", "open", "help"), ("z", "open", None)):
            refused(self, InvalidSort, address_of, PAIR, value)
        refused(self, InvalidOperation, grade, PAIR, "a", "right")


class SourceSort(unittest.TestCase):
    def test_each_grade_at_each_place(self):
        own, far = ("x", "open", None), ("s", "open", "three")
        single = ("c", "open", ("x", "open", None))
        for host, area, expected in (
            ("a", "one", [None, None, None]), ("a", "two", ["x", "side", "three"]),
            ("a", "three", ["x", "side", "three"]), ("a", "open", [own, far, ("three",)]),
            ("b", "two", [None, None, None]), ("b", "three", [None, None, None]),
            ("b", "open", [own, far, ("three",)]), ("c", "three", [None, None, None]),
            ("c", "open", [own, far, ("three",)]), ("s", "side", [None, None, None]),
            ("s", "open", ["x", "side", "three"]), ("x", "open", [None, None, None]),
        ):
            found = [source_sort(STEPS, host, target, area=area) for target in (own, far, single)]
            self.assertEqual(found, [(host, area, key) for key in expected])
            if area == "open":
                found = [source_sort(STEPS, host, target) for target in (own, far, single)]
                self.assertEqual(found, [(host, area, key) for key in expected])

    def test_the_area_of_the_target(self):
        for target in (("b", "two", None), ("b", "three", None), ("a", "three", "x")):
            for area in (None, target[1]):
                found = source_sort(STEPS, "a", target, area=area)
                self.assertEqual(found, ("a", target[1], address_of(STEPS, target)))
        self.assertEqual(source_sort(STEPS, "a", ("a", "one", None)), ("a", "one", None))

    def test_it_is_a_sort(self):
        for net in random_nets(47, 40):
            for target in all_sorts(net):
                for host in net.hosts_in(target[1]):
                    for area in net.areas_of(host):
                        if target[1] in outwards(net, area):
                            found = source_sort(net, host, target, area=area)
                            self.assertIs(is_sort(net, found), True)
                            self.assertEqual(found[:2], (host, area))

    def test_errors_in_their_order(self):
        target = ("help", "open", None)
        for value in NO_NETS:
            refused(self, InvalidNet, source_sort, value, None, None, area=0)
        for value in ODD + ("z", "left"):
            unknown(self, value, source_sort, PAIR, value, None, area=0)
        for value in ODD + (("z", "open", None), ("help", "left", None), ("help", "open", "a")):
            refused(self, InvalidSort, source_sort, PAIR, "a", value, area=0)
        for value in ODD + ("z", "a"):
            if value is not None:
                unknown(self, value, source_sort, PAIR, "a", target, area=value)
        for host, sort, area in (
            # Not an area of the host; a target that lies further in, or elsewhere; also without an area.
            ("a", target, "right"), ("help", target, "left"), ("a", ("a", "left", None), "open"),
            ("a", ("b", "right", None), "left"), ("a", ("b", "right", None), "open"),
            ("a", ("b", "right", None), "right"), ("a", ("b", "right", None), None),
            ("help", ("a", "left", None), None),
        ):
            refused(self, InvalidOperation, source_sort, PAIR, host, sort, area=area)
        with self.assertRaises(TypeError):
            source_sort(PAIR, "a", target, "open")


class UsedSorts(unittest.TestCase):
    def test_each_lending(self):
        known = tuple(sorted([("h", "left", None), ("x", "open", None), ("y", "open", None), ("k", "open", "x"),
                              ("k", "open", "left"), ("m", "open", ("x", "open", None)), ("m", "open", ("left",))]))
        boxes = {"left": ("open", OPEN), "far": ("open", ("address", "any", "never")), "dark": ("open", STRICT)}
        hosts = {"h": "left", "x": "open", "y": "open", "k": "far", "m": "dark"}
        out = tuple([sort for sort in known if sort[1] == "open"])
        for lending, key, expected in (
            ("source", None, out), ("address", "x", (("x", "open", None),)),
            ("address", "far", out[:2]), ("address", "dark", out[2:4]), ("address", "left", ()),
            ("door", ("x", "open", None), (("x", "open", None),)), ("door", ("k", "open", "x"), (("k", "open", "x"),)),
            ("door", ("k", "open", "far"), ()), ("door", ("dark",), out[2:4]), ("door", ("left",), ()),
        ):
            net = Net({**boxes, "left": ("open", (lending, "door", "never"))}, hosts)
            self.assertEqual(used_sorts(net, "left", ("h", "open", key), known), expected, (lending, key))

    def test_at_each_box_of_a_chain(self):
        target = ("a", "open", ("x", "open", None))
        known = tuple(sorted([("a", "one", None), ("b", "three", None), ("b", "two", None), ("c", "three", None),
                              ("s", "open", "x"), ("x", "open", None), ("c", "open", ("three",))]))
        for box, key, expected in (
            ("one", "x", (("x", "open", None),)), ("two", "x", (("x", "open", None),)),
            ("three", ("x", "open", None), (("x", "open", None),)),
        ):
            self.assertEqual(used_sorts(STEPS, box, target, known), expected)
        # Cut to the grade of the host at the box: the address in the tuple, the address of the sort, or nothing.
        single, lent = ("a", "open", ("three",)), ("a", "open", ("s", "open", "x"))
        self.assertEqual(used_sorts(STEPS, "one", single, known), (("c", "open", ("three",)),))
        self.assertEqual(used_sorts(STEPS, "three", single, known), (("c", "open", ("three",)),))
        self.assertEqual([used_sorts(STEPS, box, lent, known) for box in ("one", "three")], [(("s", "open", "x"),)] * 2)
        self.assertEqual(used_sorts(STEPS, "two", ("b", "open", ("x", "open", None)), known), tuple(
            [sort for sort in known if sort[1] in ("three", "open")]))

    def test_sorts_further_in_are_not_used(self):
        known = (("a", "one", None), ("b", "three", None), ("b", "two", None))
        self.assertEqual(used_sorts(STEPS, "one", ("a", "two", "b"), known), known[2:])
        self.assertEqual(used_sorts(STEPS, "two", ("a", "three", "two"), known), known[1:2])
        self.assertEqual(used_sorts(STEPS, "one", ("a", "three", "two"), known), known[1:2])

    def test_against_the_words(self):
        chance = random.Random(5)
        for net in random_nets(53, 60):
            every = all_sorts(net)
            for target in chance.sample(every, min(len(every), 8)):
                for box in net.boxes_between(*target[:2]):
                    known = tuple(sorted(chance.sample(every, min(len(every), 12))))
                    self.assertEqual(used_sorts(net, box, target, known), self.used(net, box, target, known))

    def used(self, net, box, target, known):
        outer = net.area_of(box)
        there, key = grade(net, target[0], outer), target[2]
        if there == "source":
            key = None
        if there == "address" and type(key) is tuple:
            key = key[0] if len(key) == 1 else address_of(net, key)
        found = [sort for sort in known if sort[1] in outwards(net, outer)]
        return tuple([sort for sort in found
                      if source_sort(net, target[0], sort, area=outer) == (target[0], outer, key)])

    def test_errors_in_their_order(self):
        target, known = ("a", "open", None), (("a", "left", None), ("help", "open", None))
        for value in NO_NETS:
            refused(self, InvalidNet, used_sorts, value, None, None, None)
        for value in ODD + ("z", "a", "open"):
            unknown(self, value, used_sorts, PAIR, value, None, None)
        for value in ODD + (("a", "open", "help"), ("z", "open", None), ("a", "open")):
            refused(self, InvalidSort, used_sorts, PAIR, "right", value, None)
            refused(self, InvalidSort, used_sorts, PAIR, "right", value, ())
        for value in ODD + (known[::-1], list(known), known[:1] * 2, known + (None,), (None,), target, {target: True},
                            (("z", "open", None),)):
            if value != ():
                refused(self, InvalidSort, used_sorts, PAIR, "right", target, value)
        for box, sort in (("right", target), ("left", ("a", "left", None)), ("left", ("help", "open", None))):
            for value in (known, ()):
                refused(self, InvalidOperation, used_sorts, PAIR, box, sort, value)
        self.assertEqual(used_sorts(PAIR, "left", target, ()), ())


class LiveSort(unittest.TestCase):
    def test_own_doors_with_all_numbers(self):
        live = LiveNet(DEEP)
        for host in DEEP:
            for number in (0, 1, 9, 10, 10 ** 40 - 1):
                self.assertEqual(live_sort(live, (host, number)), own_sort(DEEP, host))

    def test_lent_doors(self):
        live = LiveNet(STEPS.with_teller("x").with_known("a", "x").with_known("s", "x").with_known("a", "c"))
        live.send("a", ("x", 0), own=4)
        live.send("s", ("x", 0))
        live.send("a", ("c", 0))
        live.send("x", ("three", 1))
        # The door of a was lent for an own door, then for one that is not single, which shows one for a single one.
        self.assertIsNone(live.send("a", ("side", 1)))
        self.assertEqual(live_sort(live, ("three", 1)), ("a", "open", ("x", "open", None)))
        self.assertEqual(live_sort(live, ("three", 2)), ("a", "open", ("s", "open", "x")))
        self.assertEqual([live_sort(live, ("one", number)) for number in (1, 2, 3)],
                         [("a", "two", "x"), ("a", "two", "c"), ("a", "two", "side")])
        self.assertEqual([live_sort(live, ("two", number)) for number in (1, 2, 3)],
                         [("a", "three", "x"), ("a", "three", "c"), ("a", "three", "side")])
        self.assertEqual(live_sort(live, ("side", 1)), ("s", "open", "x"))

    def test_lent_for_single_ones(self):
        live = LiveNet(TIGHT)
        for host, door in (("a", ("help", 0)), ("b", ("help", 0)), ("help", ("left", 1)), ("a", ("right", 1))):
            live.send(host, door)
        self.assertEqual(live_sort(live, ("left", 1)), ("a", "open", ("help", "open", None)))
        self.assertEqual(live_sort(live, ("left", 2)), ("a", "open", ("right",)))
        self.assertEqual(live_sort(live, ("right", 1)), ("b", "open", ("help", "open", None)))

    def test_by_source_for_the_first_of_many_targets(self):
        live = LiveNet(PAIR)
        for host, door in (("b", ("help", 0)), ("a", ("help", 0)), ("help", ("left", 1)), ("a", ("right", 1))):
            live.send(host, door)
        self.assertEqual(live_sort(live, ("left", 1)), ("a", "open", None))

    def test_behind_other_numbers(self):
        for numbers in (None, lambda many: many, lambda many: 10 ** 30 - many):
            live = LiveNet(TIGHT, numbers=numbers)
            live.send("a", ("help", 0), own=7)
            door = live.log()[0][4]
            self.assertEqual(live_sort(live, door), ("a", "open", ("help", "open", None)))
            refused(self, InvalidDoor, live_sort, live, ("left", door[1] + 1))
            refused(self, InvalidDoor, live_sort, live, ("right", door[1]))

    def test_what_was_taken_back(self):
        live = LiveNet(CITY)
        live.send("b", ("help", 0))
        live.send("c", ("help", 0))
        self.assertEqual(live_sort(live, ("right", 2)), ("c", "open", "help"))
        live.back()
        refused(self, InvalidDoor, live_sort, live, ("right", 2))
        live.send("b", ("help", 0), own=1)
        self.assertEqual(live_sort(live, ("right", 2)), ("b", "open", "help"))
        live.back(many=2)
        refused(self, InvalidDoor, live_sort, live, ("right", 1))

    def test_a_long_row_of_doors_lent_for_one_another(self):
        net = PAIR.with_kind("left", ("door", "any", "never")).with_kind("right", ("door", "any", "never"))
        live = LiveNet(net)
        for host, door in (("a", ("help", 0)), ("help", ("left", 1)), ("b", ("help", 0)), ("help", ("right", 1))):
            live.send(host, door)
        for turn in range(3000):
            live.send("ba"[turn % 2], live.log()[-1][4] if turn else ("left", 1))
        self.assertEqual(live_sort(live, live.log()[-1][4]), ("a", "open", ("right",)))
        self.assertEqual(live_sort(live, live.log()[-2][4]), ("b", "open", ("left",)))

    def test_each_shown_source(self):
        # What a message shows has the sort that source_sort tells, unless it was turned round with the inner one.
        chance = random.Random(8)
        choice = [kind for kind in KINDS if kind[2] != "inner"]
        for net in random_nets(59, 80, choice=choice):
            live = LiveNet(net, numbers=lambda many: 3 * many)
            for _ in range(15):
                host = chance.choice(tuple(net))
                can = [door for door in live.knows(host) if net.area_of(door[0]) in net.areas_of(host)]
                door = chance.choice(can)
                if live.send(host, door, own=chance.choice((0, 5))) is not None:
                    expected = source_sort(net, host, live_sort(live, door))
                    self.assertEqual(live_sort(live, live.log()[-1][4]), expected)
                for name in net.boxes:
                    for lent in live.box(name):
                        sort = live_sort(live, lent)
                        self.assertEqual([is_sort(net, sort), address_of(net, sort)], [True, name])

    def test_errors_in_their_order(self):
        live = LiveNet(PAIR)
        live.send("a", ("help", 0))
        for value in NO_NETS + (PAIR,):
            if not isinstance(value, LiveNet):
                refused(self, InvalidNet, live_sort, value, ("a", 0))
                refused(self, InvalidNet, live_sort, value, None)
        for value in ODD + (("left", 0), ("left", 2), ("right", 1), ("z", 0), ("open", 0), ("left", True), "a",
                            ("a", "left", None), ("a", False)):
            refused(self, InvalidDoor, live_sort, live, value)


if __name__ == "__main__":
    unittest.main()
