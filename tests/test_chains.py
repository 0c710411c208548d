"""Chains of boxes (stage 6, [6.1] to [6.4])."""

import itertools
import random
import unittest

from lentdoors.chain.chains import (
    CHAIN_KINDS, LOOKS, boxes_for, chain_kind, chain_of, is_as_loose_chain, joined_kinds, lets_in_by,
)
from lentdoors.errors import InvalidChain, InvalidDoor, InvalidNet, InvalidOperation, UnknownName
from lentdoors.live.boxes import LiveBox
from samples import DEEP, KINDS, NO_NETS, ODD, OPEN, PAIR, STRICT, nested, random_nets

QUIET = tuple([kind for kind in KINDS if kind[2] == "never"])
ORDER = ("source", "address", "door")
# What each look asks, as told by the table of [6.1]: of the used doors, and of the target of the lent door.
ASKS = {
    "nothing": (), "address": ("address",), "door": ("address", "door"), "key": ("address", "key"),
    "both": ("address", "door", "key"), "exact": ("address", "door", "key", "exact"),
}
TABLE = {
    ("any", "source"): "nothing", ("any", "address"): "nothing", ("any", "door"): "nothing",
    ("address", "source"): "address", ("address", "address"): "key", ("address", "door"): "key",
    ("door", "source"): "door", ("door", "address"): "both", ("door", "door"): "exact",
}
NO_CHAINS = tuple([value for value in ODD if value != ("source", "address")]) + (
    ("source", "key"), ("source", "both"), ("source", "exact"), ("address", "exact"), ("door", "any"), ("any", "door"),
    ("nothing", "source"), ["source", "door"], ("source",), ("source", "door", "never"), ("door", "door", "door"),
    "source", OPEN, STRICT, nested(("source", "door"), 1),
)


def asks_no_more(look, other):
    return set(ASKS[look]) <= set(ASKS[other])


def read_box_by_box(kinds):
    """The chain kind by the words of [6.3]."""
    lending, asked = "source", []
    for kind in kinds:
        lending = max(lending, kind[0], key=ORDER.index)
        asked.append(TABLE[(kind[1], lending)])
    joins = [look for look in LOOKS if all(asks_no_more(one, look) for one in asked)]
    least = [look for look in joins if all(asks_no_more(look, other) for other in joins)]
    return (lending, least[0])


class Constants(unittest.TestCase):
    def test_looks(self):
        self.assertEqual(LOOKS, ("nothing", "address", "door", "key", "both", "exact"))

    def test_chain_kinds(self):
        expected = [("source", look) for look in LOOKS[:3]] + [("address", look) for look in LOOKS[:5]]
        self.assertEqual(CHAIN_KINDS, tuple(sorted(expected + [("door", look) for look in LOOKS])))
        self.assertEqual(len(CHAIN_KINDS), 14)


class ChainKind(unittest.TestCase):
    def test_one_to_three_boxes(self):
        for many in (1, 2, 3):
            for kinds in itertools.product(QUIET, repeat=many):
                self.assertEqual(chain_kind(kinds), read_box_by_box(kinds))

    def test_four_boxes(self):
        for kinds in random.Random(1).sample(list(itertools.product(QUIET, repeat=4)), 1500):
            self.assertEqual(chain_kind(kinds), read_box_by_box(kinds))

    def test_turning_does_not_matter(self):
        for kinds in itertools.product(KINDS, repeat=2):
            self.assertEqual(chain_kind(kinds), chain_kind(tuple([kind[:2] + ("never",) for kind in kinds])))

    def test_some(self):
        for kinds, expected in (
            ((OPEN,), ("source", "address")), ((STRICT,), ("door", "exact")),
            ((OPEN, ("door", "any", "lent")), ("door", "address")), ((("door", "any", "lent"), OPEN), ("door", "key")),
            ((("source", "door", "never"), ("address", "address", "never")), ("address", "both")),
        ):
            self.assertEqual(chain_kind(kinds), expected)

    def test_each_is_that_of_one_or_two_boxes(self):
        found = {chain_kind(kinds) for many in (1, 2) for kinds in itertools.product(QUIET, repeat=many)}
        self.assertEqual(tuple(sorted(found)), CHAIN_KINDS)
        self.assertEqual({chain_kind(kinds) for kinds in itertools.product(QUIET, repeat=3)}, found)

    def test_errors(self):
        for value in ODD + (OPEN, [OPEN], (OPEN, "door"), (("source", "door"),), (OPEN, None), ({}, OPEN)):
            with self.assertRaises(InvalidChain):
                chain_kind(value)


class Joined(unittest.TestCase):
    def test_all_pairs(self):
        for inner in CHAIN_KINDS:
            for outer in CHAIN_KINDS:
                self.assertEqual(joined_kinds(inner, outer), chain_kind(boxes_for(inner) + boxes_for(outer)))

    def test_all_ways_to_part_a_chain(self):
        for kinds in random.Random(2).sample(list(itertools.product(QUIET, repeat=4)), 400):
            for at in (1, 2, 3):
                self.assertEqual(joined_kinds(chain_kind(kinds[:at]), chain_kind(kinds[at:])), chain_kind(kinds))

    def test_in_any_order_of_steps(self):
        for one, two, three in itertools.product(CHAIN_KINDS, repeat=3):
            self.assertEqual(joined_kinds(joined_kinds(one, two), three), joined_kinds(one, joined_kinds(two, three)))

    def test_no_boxes(self):
        for chain in CHAIN_KINDS:
            self.assertEqual(joined_kinds(("source", "nothing"), chain), chain)
            self.assertEqual(joined_kinds(chain, ("source", "nothing")), chain)

    def test_errors(self):
        for value in NO_CHAINS:
            for arguments in ((value, CHAIN_KINDS[0]), (CHAIN_KINDS[0], value), (value, value)):
                with self.assertRaises(InvalidChain):
                    joined_kinds(*arguments)


class ChainOf(unittest.TestCase):
    def test_behind_none_to_three_boxes(self):
        expected = {
            ("a", "inner"): (), ("a", "mid"): (STRICT,), ("a", "outer"): (STRICT, OPEN),
            ("a", "open"): (STRICT, OPEN, STRICT), ("b", "mid"): (), ("b", "outer"): (OPEN,),
            ("b", "open"): (OPEN, STRICT), ("c", "open"): (), ("d", "side"): (), ("d", "open"): (OPEN,),
        }
        for (host, area), kinds in expected.items():
            self.assertEqual(chain_of(DEEP, host, area), chain_kind(kinds) if kinds else ("source", "nothing"))

    def test_on_many_nets(self):
        for net in random_nets(31, 60):
            for host in net:
                for area in net.areas_of(host):
                    kinds = [net.kind_of(box) for box in net.boxes_between(host, area)]
                    expected = read_box_by_box(kinds) if kinds else ("source", "nothing")
                    self.assertEqual(chain_of(net, host, area), expected)

    def test_errors_in_their_order(self):
        for value in NO_NETS:
            with self.assertRaises(InvalidNet):
                chain_of(value, None, None)
        for value in ODD + ("z", "left", "open"):
            with self.assertRaises(UnknownName) as caught:
                chain_of(PAIR, value, "z")
            self.assertIs(caught.exception.name, value)
        for value in ODD + ("z", "a"):
            with self.assertRaises(UnknownName) as caught:
                chain_of(PAIR, "a", value)
            self.assertIs(caught.exception.name, value)
        for host, area in (("a", "right"), ("help", "left"), ("b", "left")):
            with self.assertRaises(InvalidOperation):
                chain_of(PAIR, host, area)


class BoxesFor(unittest.TestCase):
    def test_all_fourteen(self):
        singles = {chain_kind((kind,)) for kind in QUIET}
        for chain in CHAIN_KINDS:
            kinds = boxes_for(chain)
            self.assertIs(type(kinds), tuple)
            self.assertEqual(len(kinds), 1 if chain in singles else 2)
            self.assertEqual([chain_kind(kinds), read_box_by_box(kinds)], [chain, chain])
            self.assertEqual([kind for kind in kinds if kind not in QUIET], [])

    def test_errors(self):
        for value in NO_CHAINS:
            with self.assertRaises(InvalidChain):
                boxes_for(value)


class AsLoose(unittest.TestCase):
    def test_all_pairs(self):
        for one in CHAIN_KINDS:
            for other in CHAIN_KINDS:
                expected = ORDER.index(one[0]) <= ORDER.index(other[0]) and asks_no_more(one[1], other[1])
                self.assertIs(is_as_loose_chain(one, other), expected, (one, other))

    def test_door_and_key(self):
        self.assertIs(is_as_loose_chain(("door", "door"), ("door", "key")), False)
        self.assertIs(is_as_loose_chain(("door", "key"), ("door", "door")), False)
        self.assertIs(is_as_loose_chain(("address", "address"), ("door", "key")), True)

    def test_errors(self):
        for value in NO_CHAINS:
            for arguments in ((value, CHAIN_KINDS[0]), (CHAIN_KINDS[0], value), (value, value)):
                with self.assertRaises(InvalidChain):
                    is_as_loose_chain(*arguments)


class LetsIn(unittest.TestCase):
    DOORS = (("x", 5), ("x", 6), ("y", 1), ("y", 2))

    def live(self, kinds, used):
        """Boxes at work with these kinds, outwards, after messages from one own door to these doors."""
        boxes = [LiveBox("box" + "abc"[at], kind) for at, kind in enumerate(kinds)]
        lent = {}
        for target in used:
            door = ("h", 0)
            for box in boxes:
                door = box.lend(door, target)
            lent[target] = door
        return boxes, lent

    def goes_in(self, boxes, door, source):
        for box in reversed(boxes):
            if not box.lets_in(door, source):
                return False
            door = box.inner(door)
        return True

    def check(self, kinds):
        for many in (1, 2, 3):
            for used in itertools.permutations(self.DOORS, many):
                boxes, lent = self.live(kinds, used)
                for target in used:
                    for source in self.DOORS + (("z", 0), ("h", 0)):
                        found = lets_in_by(chain_kind(kinds), used, target, source)
                        self.assertIs(found, self.goes_in(boxes, lent[target], source), (kinds, used, target, source))

    def test_against_boxes_at_work(self):
        for chain in CHAIN_KINDS:
            self.check(boxes_for(chain))

    def test_against_longer_chains(self):
        for kinds in random.Random(4).sample(list(itertools.product(QUIET, repeat=3)), 60):
            self.check(kinds)

    def test_each_look(self):
        far, near, other, source = ("x", 5), ("x", 6), ("y", 1), ("x", 7)
        for look, expected in (
            ("nothing", [True, True, True, True, True]), ("address", [True, True, True, True, False]),
            ("door", [True, True, True, False, False]), ("key", [True, True, False, True, False]),
            ("both", [True, True, False, False, False]), ("exact", [True, False, False, False, False]),
        ):
            for lending in ORDER:
                if (lending, look) in CHAIN_KINDS:
                    found = [lets_in_by((lending, look), (far, near, other), far, one)
                             for one in (far, near, other, source, ("z", 5))]
                    self.assertEqual(found, expected, (lending, look))

    def test_used_doors_in_any_order_and_twice(self):
        one, two = ("x", 5), ("y", 1)
        for used in ((one, two), (two, one), (one, two, one), (two, two, one)):
            self.assertIs(lets_in_by(("source", "door"), used, one, two), True)
            self.assertIs(lets_in_by(("door", "exact"), used, one, two), False)

    def refused(self, error, *arguments):
        with self.assertRaises(error) as caught:
            lets_in_by(*arguments)
        self.assertIs(type(caught.exception), error)

    def test_errors_in_their_order(self):
        chain, door = ("door", "door"), ("x", 5)
        for value in NO_CHAINS:
            self.refused(InvalidChain, value, (door,), door, door)
            self.refused(InvalidChain, value, None, None, None)
        for value in ODD + ([door],):
            self.refused(InvalidDoor, chain, value, door, door)
            self.refused(InvalidDoor, chain, (door, value), door, door)
        for look in CHAIN_KINDS:
            for value in ODD + (("x", 6), ("y", 5), ("x", True), "x"):
                self.refused(InvalidDoor, look, (door, ("x", 1)), value, door)
            self.refused(InvalidDoor, look, (), door, door)
            for value in ODD + (("x", True), "x", ("x",), ("x", 5, 5)):
                self.refused(InvalidDoor, look, (door,), door, value)


if __name__ == "__main__":
    unittest.main()
