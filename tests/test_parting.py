"""Nets that part chains (stage 7, [6.4], [7.1])."""

import itertools
import unittest

from lentdoors.base.nets import Net
from lentdoors.chain.chains import CHAIN_KINDS, boxes_for, chain_kind, chain_of
from lentdoors.chain.parting import is_parting, parting, put_behind
from lentdoors.errors import InvalidChain, InvalidNet, InvalidOperation
from lentdoors.know.hearing import hears
from lentdoors.live.boxes import LiveBox
from samples import CITY, DEEP, KINDS, MEET, NO_NETS, ODD, OPEN, PAIR, STRICT, nested, random_nets
from test_chains import NO_CHAINS, QUIET
from test_sorts import refused, unknown

FRAME = PAIR.with_kind("right", ("door", "any", "never"))
ALONE = Net({"left": ("open", OPEN)}, {"a": "left"})


class Putting(unittest.TestCase):
    def test_one_kind(self):
        for kind in KINDS:
            self.assertEqual(put_behind(PAIR, "left", (kind,)), PAIR.with_kind("left", kind))
            self.assertEqual(put_behind(PAIR, "left", (kind,), names=()), PAIR.with_kind("left", kind))

    def test_two_to_four_kinds(self):
        kinds = (STRICT, OPEN, ("address", "any", "lent"))
        self.assertEqual(put_behind(CITY, "left", kinds[:2], names=("z",)).boxes, {
            "left": ("z", STRICT), "right": ("open", CITY.kind_of("right")), "z": ("open", OPEN),
        })
        net = put_behind(CITY, "left", kinds, names=("z", "b" * 8))
        self.assertEqual(net.boxes, {
            "left": ("z", STRICT), "z": ("bbbbbbbb", OPEN), "bbbbbbbb": ("open", kinds[2]),
            "right": ("open", CITY.kind_of("right")),
        })
        self.assertEqual([net.hosts, net.tellers, net.known], [CITY.hosts, CITY.tellers, CITY.known])
        self.assertEqual(net.boxes_between("a", "open"), ("left", "z", "bbbbbbbb"))
        for names in (("x", "y", "z"), ("z", "y", "x")):
            # Four boxes one behind another are none of a net.
            refused(self, InvalidOperation, put_behind, ALONE, "left", (STRICT,) * 4, names=names)

    def test_between_other_boxes(self):
        net = Net({"p": ("open", OPEN), "q": ("p", STRICT)}, {"a": "q", "b": "p", "x": "open"}, known=(("a", "b"),))
        found = put_behind(net, "q", (OPEN, STRICT), names=("new",))
        self.assertEqual(found.boxes, {"p": ("open", OPEN), "q": ("new", OPEN), "new": ("p", STRICT)})
        self.assertEqual([found.hosts, found.known], [net.hosts, net.known])
        found = put_behind(net, "p", (STRICT, OPEN), names=("new",))
        self.assertEqual(found.boxes, {"p": ("new", STRICT), "q": ("p", STRICT), "new": ("open", OPEN)})
        self.assertEqual(found.boxes_between("a", "open"), ("q", "p", "new"))
        refused(self, InvalidOperation, put_behind, found, "q", (OPEN, OPEN), names=("more",))

    def test_the_chain_has_its_kind(self):
        for kinds in itertools.product(QUIET, repeat=2):
            net = put_behind(PAIR, "left", kinds, names=("new",))
            self.assertEqual(chain_of(net, "a", "open"), chain_kind(kinds))

    def test_equal_chain_kinds_can_stand_for_each_other(self):
        chains = {}
        for many in (1, 2):
            for kinds in itertools.product(QUIET, repeat=many):
                chains.setdefault(chain_kind(kinds), []).append(kinds)
        for net in (PAIR, FRAME, PAIR.with_host("c", "left").with_teller("a")):
            for chain in CHAIN_KINDS:
                found = set()
                for kinds in chains[chain]:
                    changed = put_behind(net, "left", kinds, names=("new",)[:len(kinds) - 1])
                    pairs = [(host, other) for host in net for other in net if host != other]
                    found.add(tuple([hears(changed, *pair) for pair in pairs]))
                self.assertEqual(len(found), 1, chain)

    def test_nothing_changes(self):
        boxes = PAIR.boxes
        put_behind(PAIR, "left", (STRICT, STRICT), names=("new",))
        self.assertEqual(PAIR.boxes, boxes)

    def test_errors_in_their_order(self):
        for value in NO_NETS:
            refused(self, InvalidNet, put_behind, value, None, None, names=0)
        for value in ODD + ("a", "open", "z"):
            unknown(self, value, put_behind, PAIR, value, None, names=0)
        for value in ODD + (OPEN, [OPEN], (OPEN, None), (OPEN, "a"), (["a"],), nested(OPEN, 2)):
            refused(self, InvalidChain, put_behind, PAIR, "left", value, names=0)
        with self.assertRaises(TypeError):
            put_behind(PAIR, "left", (OPEN,), ())

    def test_wrong_names(self):
        for value in ODD:
            if value != ():
                refused(self, InvalidOperation, put_behind, PAIR, "left", (OPEN,), names=value)
            refused(self, InvalidOperation, put_behind, PAIR, "left", (OPEN, OPEN), names=value)
            refused(self, InvalidOperation, put_behind, PAIR, "left", (OPEN, OPEN), names=(value,))
            refused(self, InvalidOperation, put_behind, PAIR, "left", (OPEN, OPEN, OPEN), names=("z", value))
        for names in (
            # No names, too many, too few; there already, as a host or a box; open; twice; a list.
            ("Z",), ("z1",), ("abcdefghi",), ("",), ("z", "y"), (), ("a",), ("help",), ("left",), ("right",), ("open",),
            ["z"], "z", {"z": True}, ("z", "z"),
        ):
            refused(self, InvalidOperation, put_behind, PAIR, "left", (OPEN, OPEN), names=names)
        for names in (("z", "z"), ("z", "left"), ("a", "z"), ("z",), ("z", "y", "x"), ("open", "z")):
            refused(self, InvalidOperation, put_behind, PAIR, "left", (OPEN, OPEN, OPEN), names=names)

    def test_too_many_boxes(self):
        self.assertEqual(len(put_behind(PAIR, "left", (OPEN,) * 3, names=("x", "y")).boxes), 4)
        refused(self, InvalidOperation, put_behind, DEEP, "side", (OPEN, OPEN), names=("z",))
        refused(self, InvalidOperation, put_behind, PAIR, "left", (OPEN,) * 4, names=("x", "y", "z"))


def heard(net, box, chain, host, speaker):
    """Whether the host hears the speaker if boxes of this chain kind stand in the place of the box."""
    kinds = boxes_for(chain)
    return hears(put_behind(net, box, kinds, names=("zz",)[:len(kinds) - 1]), host, speaker)


class Parting(unittest.TestCase):
    def test_all_pairs(self):
        for chain in CHAIN_KINDS:
            for other in CHAIN_KINDS:
                value = parting(chain, other)
                if chain == other:
                    self.assertIsNone(value)
                else:
                    self.assertIs(type(value), tuple)
                    net, box, host, speaker = value
                    self.assertIs(is_parting(chain, other, value), True)
                    self.assertIs(is_parting(other, chain, value), True)
                    self.assertNotEqual(host, speaker)
                    found = [heard(net, box, one, host, speaker) for one in (chain, other)]
                    self.assertEqual(sorted(found), [False, True], (chain, other))

    def test_errors(self):
        for value in NO_CHAINS:
            for arguments in ((value, CHAIN_KINDS[0]), (CHAIN_KINDS[0], value), (value, value)):
                refused(self, InvalidChain, parting, *arguments)
                for case in ((FRAME, "left", "a", "b"), None):
                    refused(self, InvalidChain, is_parting, *arguments, case)


class Judging(unittest.TestCase):
    def test_frames_of_others(self):
        many = 0
        for net in (FRAME, PAIR, CITY.without("c")) + tuple(random_nets(3, 3, boxes=2, hosts=3)):
            for box, host, speaker in itertools.product(net.boxes, net, net):
                if host != speaker:
                    found = {chain: heard(net, box, chain, host, speaker) for chain in CHAIN_KINDS}
                    for chain in CHAIN_KINDS[::3]:
                        for other in CHAIN_KINDS[1::2]:
                            value = is_parting(chain, other, (net, box, host, speaker))
                            self.assertIs(value, found[chain] != found[other])
                            many += value
        self.assertGreater(many, 50)

    def test_other_names(self):
        new = FRAME.renamed({"left": "z", "a": "left", "b": "zz", "help": "zzzzzzzz", "right": "y"})
        args = (("source", "address"), ("source", "door"))
        self.assertIs(is_parting(*args, (FRAME, "left", "a", "b")), True)
        self.assertIs(is_parting(*args, (new, "z", "left", "zz")), True)
        self.assertIs(is_parting(*args, (new, "z", "zz", "left")), False)

    def test_the_kind_of_the_box_itself_does_not_matter(self):
        for kind in KINDS:
            value = (FRAME.with_kind("left", kind), "left", "a", "b")
            self.assertIs(is_parting(("source", "address"), ("source", "door"), value), True)

    def test_one_letter_names_that_are_there(self):
        net = FRAME.renamed({"left": "a", "right": "b", "a": "c", "b": "d", "help": "e"})
        value = (net, "a", "c", "d")
        found = heard(net, "a", ("door", "door"), "c", "d") != heard(net, "a", ("source", "door"), "c", "d")
        self.assertIs(is_parting(("door", "door"), ("source", "door"), value), found)

    def test_equal_chain_kinds(self):
        for chain in CHAIN_KINDS:
            self.assertIs(is_parting(chain, chain, (FRAME, "left", "a", "b")), False)

    def test_both_must_be_nets(self):
        # No room for a second box: behind three boxes, or with four boxes.
        one, two = ("source", "door"), ("door", "door")
        boxes = {"left": ("q", OPEN), "q": ("p", ("source", "any", "never")), "p": ("open", ("source", "any", "never"))}
        hosts = {"a": "left", "b": "open", "help": "open"}
        net = Net(boxes, hosts, tellers=("help",), known=(("a", "help"), ("b", "help")))
        found = [hears(net.with_kind("left", kind), "a", "b") for kind in (("source", "any", "never"), STRICT)]
        self.assertEqual(found, [True, True])
        kinds = (("door", "any", "never"),) + (("source", "any", "never"),) * 2
        net = put_behind(FRAME, "right", kinds, names=("y", "z"))
        self.assertEqual(len(net.boxes), 4)
        value = (net, "left", "a", "b")
        self.assertIs(is_parting(("source", "address"), ("source", "door"), value), True)
        self.assertEqual([len(boxes_for(one)), len(boxes_for(two))], [1, 2])
        for chain in CHAIN_KINDS:
            if len(boxes_for(chain)) == 2:
                for other in CHAIN_KINDS:
                    self.assertIs(is_parting(chain, other, value), False)
                    self.assertIs(is_parting(other, chain, value), False)

    def test_values_that_are_no_cases(self):
        good = (FRAME, "left", "a", "b")
        values = [good[:3], good + ("b",), list(good), good[::-1], (good,), FRAME, (FRAME, "left", "a", "a"),
                  (FRAME, "a", "a", "b"), (FRAME, "open", "a", "b"), (FRAME, "z", "a", "b"), (FRAME, "left", "z", "b"),
                  (FRAME, "left", "a", "right"), (FRAME, "left", "left", "b"), (FRAME.boxes, "left", "a", "b")]
        for value in ODD + (MEET, LiveBox("left", OPEN)):
            values.extend([value, (value, *good[1:]), (FRAME, value, "a", "b"), (FRAME, "left", value, "b"),
                           (FRAME, "left", "a", value)])
        for value in values:
            if not (isinstance(value, tuple) and len(value) == 4 and value[0] == PAIR):
                self.assertIs(is_parting(("source", "address"), ("source", "door"), value), False, value)


if __name__ == "__main__":
    unittest.main()
