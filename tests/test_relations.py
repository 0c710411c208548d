"""What can be heard in whole nets, and nets that are alike (stage 12, [12.1], [12.2])."""

import random
import unittest

from lentdoors.base.kinds import TURNINGS
from lentdoors.base.nets import Net
from lentdoors.chain.chains import chain_of
from lentdoors.errors import InvalidNet, InvalidOperation
from lentdoors.know.hearing import hears, lines
from lentdoors.live.talks import Talk, fits, hearers
from lentdoors.wide.relations import Hearing, are_alike
from samples import BARE, CITY, DEEP, KINDS, LATE, NEVER, NO_NETS, ODD, PAIR, STRICT, TIGHT, random_net, random_nets
from test_hearing import pairs
from test_sorts import STEPS, refused, unknown

NETS = (PAIR, TIGHT, CITY, CITY.renamed({"a": "z"}), DEEP, LATE, STEPS, BARE, Net({}, {"a": "open"}))


# Here a and b can hear each other, but each only by a door that is lent for a lent one.
SINGLE = Net(
    {"p": ("open", ("door", "any", "never")), "q": ("open", ("door", "address", "never"))},
    {"a": "p", "b": "q", "c": "open"}, tellers=("a", "c"), known=(("a", "c"), ("b", "c")),
)


def ways(net, host, other):
    """All relays from the other one to the host, by trying each way."""
    found, waiting = [], [(other,)]
    while waiting:
        way = waiting.pop()
        if way[-1] == host:
            found.append(way)
        else:
            waiting.extend([(*way, name) for name in net if name not in way and hears(net, name, way[-1])])
    return found


class Relations(unittest.TestCase):
    def check(self, net):
        hearing = Hearing(net)
        expected = tuple([pair for pair in pairs(net) if hears(net, *pair)])
        for _ in range(2):
            self.assertEqual(hearing.pairs(), expected)
            self.assertEqual(tuple(hearing), expected)
            self.assertEqual([pair for pair in hearing], list(expected))
            self.assertEqual(len(hearing), len(expected))
            self.assertEqual(str(hearing), f"hearing of {len(net)} hosts, {len(expected)} pairs")
            for host in reversed(tuple(net)):
                listeners = tuple([one for one in net if (one, host) in expected])
                self.assertEqual(hearing.listeners_of(host), listeners)
                speakers = tuple([other for other in net if (host, other) in expected])
                self.assertEqual([hearing[host], hearing.speakers_of(host)], [speakers, speakers])
                self.assertNotIn((host, host), hearing)
            for pair in pairs(net):
                self.assertIs(pair in hearing, pair in expected)
            both = tuple([pair for pair in expected if pair[0] < pair[1] and pair[::-1] in expected])
            self.assertEqual(hearing.lined(), tuple([pair for pair in both if lines(net, *pair)]))
            self.assertEqual(hearing.both(), both)
        self.assertEqual(hearing.net, net)
        self.assertEqual(hearing, Hearing(net))

    def test_nets_of_each_form(self):
        for net in NETS + tuple(random_nets(201, 60)):
            self.check(net)

    def test_both_and_lined(self):
        self.assertEqual(Hearing(TIGHT).both(), (("a", "help"), ("b", "help")))
        self.assertEqual(Hearing(CITY).both(), (("a", "help"), ("b", "c"), ("b", "help"), ("c", "help")))
        self.assertEqual(Hearing(SINGLE).both(), (("a", "b"), ("a", "c"), ("b", "c")))
        self.assertEqual(Hearing(SINGLE).lined(), (("a", "c"), ("b", "c")))
        self.check(SINGLE)

    def test_every_value_is_in_it_or_not(self):
        for hearing in (Hearing(PAIR), Hearing(TIGHT)):
            for value in ODD + (["a", "help"], ("a", "help", "b"), "a", ("a", "z"), ("left", "a"), (("a", "b"),)):
                self.assertIs(value in hearing, False)
        self.assertIs(("help", "b") in Hearing(TIGHT), True)


class Relays(unittest.TestCase):
    def test_against_all_ways(self):
        lengths = set()
        for net in NETS + tuple(random_nets(207, 60)):
            hearing = Hearing(net)
            for pair in pairs(net):
                found, all_ways = hearing.relay(*pair), ways(net, *pair)
                if not all_ways:
                    self.assertIsNone(found)
                else:
                    self.assertIn(found, all_ways)
                    self.assertEqual(len(found), min([len(way) for way in all_ways]))
                    lengths.add(len(found))
        self.assertLessEqual({2, 3}, lengths)

    def test_a_long_relay(self):
        # In a row of strict boxes each host knows just the next one at first, and nobody tells.
        net = Net({}, {"a": "open", "b": "open", "c": "open", "d": "open"}, known=(("a", "b"), ("b", "c"), ("d", "c")))
        self.assertEqual(Hearing(net).relay("a", "d"), ("d", "c", "b", "a"))
        self.assertEqual(Hearing(net).relay("d", "a"), ("a", "b", "c", "d"))
        self.assertEqual(Hearing(net).relay("b", "c"), ("c", "b"))


class Bars(unittest.TestCase):
    def test_against_changed_nets(self):
        sizes = set()
        strict = [kind for kind in KINDS if kind[1] != "any"]
        drawn = random_nets(211, 40) + random_nets(213, 60, boxes=2, hosts=3, choice=strict)
        drawn += random_nets(215, 60, boxes=1, hosts=4, choice=[kind for kind in strict if kind[2] == "lent"])
        for net in NETS + tuple(drawn):
            hearing = Hearing(net)
            for pair in pairs(net):
                expected = []
                for box in sorted(net.boxes):
                    changed = net.with_kind(box, ("source", "any", net.kind_of(box)[2]))
                    if hears(changed, *pair) and not hears(net, *pair):
                        expected.append(box)
                self.assertEqual(hearing.bars(*pair), tuple(expected))
                sizes.add(len(expected))
        self.assertLessEqual({0, 1, 2}, sizes)

    def test_the_lending_counts_too(self):
        # b lets a in only at the door to which it has sent, so the box of a has to show this door to b, too.
        net = TIGHT.with_kind("right", ("source", "door", "never"))
        self.assertEqual([Hearing(net).bars("b", "a"), Hearing(net).bars("a", "b")],
            [("left", "right"), ("left", "right")])
        self.assertIs(hears(net.with_kind("left", ("address", "any", "never")), "b", "a"), False)

    def test_the_letting_counts_too(self):
        # b turns round at p with its inner source, to which a has not sent anything, and whose address it has not used.
        boxes = {"p": ("open", ("source", "door", "inner")), "q": ("p", ("source", "door", "never"))}
        net = Net(boxes, {"a": "q", "b": "p", "c": "open"}, tellers=("a", "c"), known=(("a", "c"), ("b", "c")))
        self.assertEqual(Hearing(net).bars("a", "b"), ("q",))
        self.assertIs(hears(net.with_kind("q", ("source", "address", "never")), "a", "b"), False)

    def test_the_turning_stays(self):
        net = Net({"p": ("open", ("door", "door", "never"))}, {"a": "p", "b": "p", "e": "open"}, tellers=("e",),
                  known=(("a", "e"), ("b", "e")))
        self.assertEqual(Hearing(net).bars("a", "b"), ())
        self.assertEqual(Hearing(net.with_kind("p", ("door", "door", "lent"))).bars("a", "b"), ("p",))


class Operators(unittest.TestCase):
    def test_is_within_and_difference(self):
        chance = random.Random(5)
        found = set()
        for _ in range(60):
            one, other = [random_net(chance, hosts=chance.choice((3, 4))) for _ in range(2)]
            left, right = Hearing(one), Hearing(other)
            lacking = tuple([pair for pair in left.pairs() if pair not in right.pairs()])
            self.assertEqual(left - right, lacking)
            self.assertIs(left.is_within(right), lacking == ())
            equal = left.pairs() == right.pairs() and tuple(one) == tuple(other)
            self.assertEqual([left == right, left != right], [equal, not equal])
            found.update([lacking == (), ("equal", equal)])
        self.assertEqual(found, {True, False, ("equal", True), ("equal", False)})
        self.assertEqual(Hearing(PAIR) - Hearing(TIGHT), (("a", "b"), ("b", "a")))
        self.assertEqual([Hearing(TIGHT).is_within(Hearing(PAIR)), Hearing(PAIR).is_within(Hearing(TIGHT))],
            [True, False])

    def test_equal(self):
        self.assertEqual(Hearing(PAIR), Hearing(PAIR.with_teller("a")))
        self.assertEqual(Hearing(STEPS), Hearing(Net({}, {name: "open" for name in STEPS})))
        self.assertNotEqual(Hearing(STEPS), Hearing(Net({}, {name: "open" for name in (*STEPS, "z")})))
        self.assertNotEqual(Hearing(PAIR), Hearing(TIGHT))
        for value in ODD + (PAIR, Hearing(PAIR).pairs(), "hearing of 3 hosts, 6 pairs"):
            self.assertIs(Hearing(PAIR) == value, False)
            self.assertIs(Hearing(PAIR) != value, True)

    def test_str(self):
        self.assertEqual(str(Hearing(TIGHT)), "hearing of 3 hosts, 4 pairs")
        self.assertEqual(str(Hearing(Net({}, {"a": "open"}))), "hearing of 1 hosts, 0 pairs")
        self.assertEqual(str(Hearing(DEEP)), f"hearing of 4 hosts, {len(Hearing(DEEP))} pairs")


class Errors(unittest.TestCase):
    def test_no_net(self):
        for value in NO_NETS:
            refused(self, InvalidNet, Hearing, value)

    def test_hosts(self):
        hearing = Hearing(PAIR)
        for value in ODD + ("left", "open", "z"):
            for call in (hearing.speakers_of, hearing.listeners_of, lambda name: hearing[name]):
                unknown(self, value, call, value)
            for call in (hearing.relay, hearing.bars):
                unknown(self, value, call, value, "z")
                unknown(self, value, call, "a", value)
                unknown(self, value, call, value, value)
        bare = Hearing(Net({}, {"a": "open", "b": "open"}))
        unknown(self, "z", bare.bars, "z", "a")
        unknown(self, "z", bare.relay, "a", "z")
        refused(self, InvalidOperation, bare.bars, "a", "a")
        for host in PAIR:
            refused(self, InvalidOperation, hearing.relay, host, host)
            refused(self, InvalidOperation, hearing.bars, host, host)

    def test_no_hearing(self):
        for value in ODD + ("a", PAIR, Hearing(PAIR).pairs()):
            refused(self, InvalidOperation, Hearing(PAIR).is_within, value)
            refused(self, InvalidOperation, lambda other: Hearing(PAIR) - other, value)


class Alike(unittest.TestCase):
    def by_the_words(self, net, other):
        if net.hosts != other.hosts or net.tellers != other.tellers or net.known != other.known:
            return False
        if sorted(net.boxes) != sorted(other.boxes):
            return False
        for box in net.boxes:
            if net.area_of(box) != other.area_of(box) or net.kind_of(box)[2] != other.kind_of(box)[2]:
                return False
        return all([chain_of(net, host, area) == chain_of(other, host, area)
                    for host in net for area in net.areas_of(host)[1:]])

    def check(self, net, other, expected):
        for pair in ((net, other), (other, net)):
            self.assertIs(are_alike(*pair), expected)

    def test_against_the_words(self):
        chance, found = random.Random(7), set()
        for net in random_nets(217, 150, boxes=3, hosts=3):
            other = net
            for box in net.boxes:
                if chance.random() < 0.6:
                    kind = chance.choice(KINDS)
                    kind = kind[:2] + (net.kind_of(box)[2],) if chance.random() < 0.9 else kind
                    other = other.with_kind(box, kind)
            expected = self.by_the_words(net, other)
            self.check(net, other, expected)
            found.add((expected, net == other))
        self.assertEqual(found, {(True, True), (True, False), (False, False)})

    def test_other_kinds_that_ask_for_the_same(self):
        # A box that lends by address behind which one lends by source: the outer one asks alike by either lending.
        base = Net({"p": ("open", ("address", "door", "never")), "q": ("p", ("door", "any", "lent"))},
                   {"a": "q", "b": "open"}, tellers=("b",), known=(("a", "b"),))
        self.check(base, base.with_kind("p", ("door", "door", "never")), True)
        self.check(base, base.with_kind("p", ("source", "door", "never")), True)
        self.check(base, base.with_kind("p", ("source", "address", "never")), False)
        self.check(base, base.with_kind("q", ("address", "any", "lent")), False)
        # With a host between them the outer box alone counts, too.
        more = base.with_host("c", "p")
        self.check(more, more.with_kind("p", ("source", "door", "never")), False)

    def test_talks_of_nets_that_are_alike(self):
        chance, many = random.Random(13), 0
        for net in random_nets(219, 200, boxes=3, hosts=3):
            other = net
            for box in net.boxes:
                other = other.with_kind(box, chance.choice(KINDS)[:2] + (net.kind_of(box)[2],))
            if are_alike(net, other) and net != other:
                many += 1
                for _ in range(10):
                    talk = random_talk(chance, net)
                    self.assertIs(fits(other, talk), True)
                    self.assertEqual(hearers(net, talk), hearers(other, talk))
        self.assertGreater(many, 5)

    def test_nets_that_differ_in_one_part(self):
        for net in (PAIR, CITY, LATE):
            host, box = tuple(net)[0], tuple(net.boxes)[0]
            for turning in TURNINGS:
                other = net.with_kind(box, net.kind_of(box)[:2] + (turning,))
                self.check(net, other, turning == net.kind_of(box)[2])
            for other in (
                net.with_teller([one for one in net if one not in net.tellers][0]),
                Net(net.boxes, net.hosts, tellers=net.tellers, known=net.known[1:]),
                Net(net.boxes, net.hosts, known=net.known), Net(net.boxes, net.hosts, tellers=net.tellers),
                net.with_host("z", "open"), net.with_host("z", box), net.with_box("z", "open", STRICT),
                net.renamed({host: "z"}), net.renamed({box: "z"}),
            ):
                self.check(net, other, False)
            self.check(net, net, True)
        moved = Net(PAIR.boxes, {**PAIR.hosts, "b": "left"}, tellers=PAIR.tellers, known=PAIR.known)
        self.check(PAIR, moved, False)
        inward = Net({"left": ("open", STRICT), "right": ("left", STRICT)}, {"a": "open"})
        self.check(inward, Net({"left": ("open", STRICT), "right": ("open", STRICT)}, {"a": "open"}), False)

    def test_a_box_without_hosts(self):
        net = PAIR.with_box("z", "open", STRICT)
        for kind in NEVER:
            self.check(net, net.with_kind("z", kind), True)
        self.check(net, net.with_kind("z", STRICT[:2] + ("lent",)), False)

    def test_errors_in_their_order(self):
        for value in NO_NETS:
            refused(self, InvalidNet, are_alike, value, value)
            refused(self, InvalidNet, are_alike, PAIR, value)
            refused(self, InvalidNet, are_alike, value, PAIR)


def random_talk(chance, net, many=20):
    """A talk that fits the net, with messages of this chance."""
    talk = Talk()
    for _ in range(many):
        options = [("own", chance.choice(tuple(net)))]
        options.extend([("shown", at) for at in range(len(talk))])
        longer = Talk(*talk.messages(), (chance.choice(tuple(net)), chance.choice(options)))
        talk = longer if fits(net, longer) else talk
    return talk


if __name__ == "__main__":
    unittest.main()
