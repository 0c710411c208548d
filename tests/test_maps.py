"""Maps of nets (stage 13, [13.1], [13.2])."""

import itertools
import random
import unittest

from lentdoors.base.kinds import LENDINGS, LETTINGS, is_as_loose, kinds
from lentdoors.base.nets import Net
from lentdoors.errors import InvalidMap, InvalidNet, InvalidOperation, InvalidTalk
from lentdoors.know.hearing import hears
from lentdoors.live.boxes import LiveBox
from lentdoors.live.nets import LiveNet
from lentdoors.live.talks import Talk, carried, fits, hearers
from lentdoors.wide.maps import NetMap, is_map, maps
from samples import CITY, DEEP, KINDS, LATE, MEET, NO_NETS, ODD, OPEN, PAIR, STRICT, TIGHT, random_net, random_nets
from test_hearing import CHOOSERS, pairs
from test_relations import random_talk
from test_sorts import STEPS, refused, unknown

QUIET, LENT, INNER = [("source", "any", turning) for turning in ("never", "lent", "inner")]
ALONE = Net({}, {"a": "open", "b": "open", "help": "open"}, tellers=PAIR.tellers, known=PAIR.known)
SAME = {name: name for name in PAIR}


def by_the_words(net, other, hosts, boxes):
    """Whether two dicts from all hosts and from all boxes, to hosts and to boxes or None, are those of a map."""
    def area(name):
        if name == "open":
            return "open"
        return area(net.area_of(name)) if boxes[name] is None else boxes[name]

    def goes_to(box):
        found = set()
        for name in [*net.hosts, *net.boxes]:
            if net.area_of(name) == box:
                image = {**hosts, **boxes}[name]
                found |= goes_to(name) if image is None else {image}
        return found

    for box, image in boxes.items():
        if image is None:
            if len(goes_to(box)) > 1 or (goes_to(box) & set(other.boxes) and net.kind_of(box)[2] != "never"):
                return False
            continue
        ours, theirs = net.kind_of(box), other.kind_of(image)
        if other.area_of(image) != area(net.area_of(box)):
            return False
        if LENDINGS.index(theirs[0]) > LENDINGS.index(ours[0]) or LETTINGS.index(theirs[1]) > LETTINGS.index(ours[1]):
            return False
        if ours[2] in ("lent", "inner") and theirs[2] != ours[2]:
            return False
        if list(boxes.values()).count(image) > 1 and theirs[2] != "lent":
            return False
    return (
        all([other.area_of(hosts[host]) == area(net.area_of(host)) for host in net])
        and all([hosts[host] in other.tellers for host in net.tellers])
        and all([hosts[one] == hosts[two] or (hosts[one], hosts[two]) in other.known for one, two in net.known])
    )


def all_dicts(net, other):
    """All pairs of dicts from all hosts and all boxes."""
    for images in itertools.product(other, repeat=len(net)):
        for to_boxes in itertools.product([None, *other.boxes], repeat=len(net.boxes)):
            yield dict(zip(net, images)), dict(zip(net.boxes, to_boxes))


def looser(chance, net):
    """A net that is looser in some parts."""
    for box in net.boxes:
        if chance.random() < 0.5:
            net = net.with_kind(box, chance.choice(list(kinds(least=net.kind_of(box)))))
    return net.with_teller(chance.choice(tuple(net)))


class AllMaps(unittest.TestCase):
    def check(self, net, other):
        expected = [pair for pair in all_dicts(net, other) if by_the_words(net, other, *pair)]
        found = [(way.hosts, way.boxes) for way in maps(net, other)]
        self.assertEqual(sorted(map(str, found)), sorted(map(str, expected)))
        for hosts, boxes in all_dicts(net, other):
            good = (hosts, boxes) in expected
            self.assertIs(is_map(net, other, (hosts, boxes)), good)
            turned = dict(reversed(list(hosts.items()))), dict(reversed(list(boxes.items())))
            self.assertIs(is_map(net, other, turned), good)
            if good:
                way = NetMap(net, other, turned[0], boxes=turned[1])
                self.assertEqual([list(way.hosts.items()), list(way.boxes.items())],
                                 [sorted(hosts.items()), sorted(boxes.items())])
            else:
                refused(self, InvalidMap, NetMap, net, other, hosts, boxes=boxes)
        return expected

    def test_small_nets(self):
        chance, many, dissolved, shared = random.Random(1), [], 0, 0
        for _ in range(60):
            net = random_net(chance, boxes=chance.randint(0, 2), hosts=chance.randint(1, 2))
            found = self.check(net, random_net(chance, boxes=chance.randint(0, 2), hosts=chance.randint(1, 2)))
            many.append(len(found))
            for turn in range(2):
                found = self.check(net, looser(chance, net))
                many.append(len(found))
                dissolved += any([None in boxes.values() for _, boxes in found])
                shared += any([len(set(boxes.values())) < len(boxes) for _, boxes in found])
        self.assertTrue(0 in many and max(many) > 3 and dissolved > 5 and shared > 5)

    def test_three_boxes(self):
        chance = random.Random(3)
        for choice in ((QUIET, STRICT), (LENT,), (QUIET, LENT)):
            for _ in range(4):
                net = random_net(chance, boxes=3, hosts=2, choice=choice)
                self.check(net, random_net(chance, boxes=2, hosts=2, choice=choice))
                self.check(net, looser(chance, net))

    def test_generated_maps(self):
        self.assertEqual(len(list(maps(PAIR, PAIR))), len(self.check(PAIR, PAIR)))
        self.assertEqual(len(list(maps(PAIR, TIGHT))), len(self.check(PAIR, TIGHT)))
        for way in maps(TIGHT, PAIR):
            self.assertIsInstance(way, NetMap)
            self.assertEqual([way.net, way.other], [TIGHT, PAIR])
        six = Net({}, {name: "open" for name in "abcdef"})
        self.assertEqual(len({tuple(way.hosts.values()) for way in maps(six, six)}), 6 ** 6)

    def test_errors_of_the_generator(self):
        for value in NO_NETS:
            for pair in ((value, value), (value, PAIR), (PAIR, value)):
                found = maps(*pair)
                refused(self, InvalidNet, lambda: list(found))


class Rules(unittest.TestCase):
    """Each rule of [13.1], broken alone."""

    def check(self, net, other, hosts, boxes, expected):
        self.assertIs(is_map(net, other, (hosts, boxes)), expected)
        self.assertIs(by_the_words(net, other, hosts, boxes), expected)
        if expected:
            way = NetMap(net, other, hosts, boxes=boxes)
            self.assertEqual([way.hosts, way.boxes], [hosts, boxes])
        else:
            refused(self, InvalidMap, NetMap, net, other, hosts, boxes=boxes)

    def test_areas(self):
        net = Net({"p": ("open", QUIET), "q": ("p", QUIET)}, {"a": "q", "b": "p"})
        flat = Net({"p": ("open", QUIET), "q": ("open", QUIET)}, {"a": "q", "b": "p"})
        same = {"p": "p", "q": "q"}
        self.check(net, net, {"a": "a", "b": "b"}, same, True)
        self.check(net, net, {"a": "b", "b": "b"}, same, False)
        self.check(net, net, {"a": "a", "b": "a"}, same, False)
        self.check(net, flat, {"a": "a", "b": "b"}, same, False)
        self.check(net, flat, {"a": "b", "b": "b"}, {"p": "p", "q": None}, True)
        self.check(net, flat, {"a": "a", "b": "b"}, {"p": "p", "q": None}, False)

    def test_kinds(self):
        for ours in KINDS:
            for theirs in KINDS:
                net, other = [Net({"p": ("open", kind)}, {"a": "p"}) for kind in (ours, theirs)]
                turns_alike = ours[2] == "never" or ours[2] == theirs[2]
                expected = is_as_loose(theirs[:2] + ("never",), ours[:2] + ("never",)) and turns_alike
                self.check(net, other, {"a": "a"}, {"p": "p"}, expected)

    def test_two_boxes_to_one(self):
        for kind in (QUIET, LENT, INNER):
            net = Net({"p": ("open", QUIET), "q": ("open", QUIET)}, {"a": "p", "b": "q"})
            other = Net({"s": ("open", kind)}, {"x": "s", "y": "s"})
            self.check(net, other, {"a": "x", "b": "y"}, {"p": "s", "q": "s"}, kind == LENT)
            self.check(net, other, {"a": "x", "b": "x"}, {"p": "s", "q": "s"}, kind == LENT)

    def test_tellers(self):
        net, other = [Net({}, {"a": "open", "b": "open"}, tellers=tellers) for tellers in (("a",), ("a", "b"))]
        for to in ("a", "b"):
            self.check(net, net, {"a": to, "b": "b"}, {}, to == "a")
            self.check(net, other, {"a": to, "b": "b"}, {}, True)

    def test_known(self):
        net = Net({}, {"a": "open", "b": "open", "c": "open"}, known=(("a", "b"),))
        for one, two in itertools.product("abc", repeat=2):
            expected = one == two or (one, two) == ("a", "b")
            self.check(net, net, {"a": one, "b": two, "c": "c"}, {}, expected)

    def test_dissolved_boxes(self):
        inside = {"p": ("open", STRICT), "q": ("p", QUIET), "r": ("p", QUIET)}
        out = Net({"q": ("open", LENT), "r": ("open", LENT)}, {"a": "q", "b": "r", "c": "open"})
        both = {"p": None, "q": "q", "r": "q"}
        net = Net(inside, {"a": "q", "b": "r"})
        self.check(net, out, {"a": "a", "b": "a"}, both, True)
        self.check(net, out, {"a": "a", "b": "b"}, {"p": None, "q": "q", "r": "r"}, False)
        # A host and a box that stand behind it never go to the same thing, if the box is kept.
        self.check(net.with_host("c", "p"), out, {"a": "a", "b": "a", "c": "c"}, both, False)
        self.check(net.with_box("s", "p", STRICT), out, {"a": "a", "b": "a"}, {**both, "s": None}, True)
        # Boxes behind which nothing stands play no role, also one behind another.
        deep = net.with_box("s", "p", LENT)
        self.check(deep, out, {"a": "a", "b": "a"}, {**both, "s": None}, True)
        self.check(deep, out, {"a": "a", "b": "a"}, {**both, "s": "q"}, True)
        self.check(deep, out, {"a": "a", "b": "a"}, {**both, "s": "r"}, False)
        deep = net.with_box("s", "r", LENT)
        self.check(deep, out, {"a": "a", "b": "a"}, {**both, "s": None}, True)
        # A dissolved box goes where what stands behind it goes.
        self.check(net, out, {"a": "c", "b": "c"}, {"p": None, "q": None, "r": None}, True)
        self.check(net, out, {"a": "c", "b": "a"}, {"p": None, "q": None, "r": "q"}, False)

    def test_dissolved_boxes_that_turn(self):
        out = Net({"q": ("open", LENT)}, {"a": "q", "c": "open"})
        for kind in KINDS:
            net = Net({"p": ("open", kind), "q": ("p", QUIET)}, {"a": "q"})
            self.check(net, out, {"a": "a"}, {"p": None, "q": "q"}, kind[2] == "never")
            # Before a host it may turn messages, also beside a dissolved box before the same host.
            self.check(net, out, {"a": "c"}, {"p": None, "q": None}, True)
            net = Net({"p": ("open", kind), "q": ("p", kind), "r": ("q", QUIET)}, {"a": "r"})
            self.check(net, out.renamed({"q": "r"}), {"a": "a"}, {"p": None, "q": None, "r": "r"}, kind[2] == "never")
            self.check(net, out, {"a": "c"}, {"p": None, "q": None, "r": None}, True)

    def test_two_hosts_behind_a_dissolved_box(self):
        net = Net({"p": ("open", QUIET)}, {"a": "p", "b": "p"})
        other = Net({}, {"x": "open", "y": "open"})
        for one, two in itertools.product("xy", repeat=2):
            self.check(net, other, {"a": one, "b": two}, {"p": None}, one == two)

    def test_values_of_other_forms(self):
        good = (SAME, {"left": "left", "right": "right"})
        self.assertIs(is_map(TIGHT, PAIR, good), True)
        for hosts in ODD + ({**SAME, "z": "a"}, {"a": "a", "b": "b"}, {**SAME, "a": "left"}, {**SAME, "a": None},
                            {**SAME, "a": ["a"]}, {**SAME, "a": "open"}, tuple(SAME), {}, {**SAME, "a": PAIR},
                            {"a": "a", "b": "b", "z": "help"}, {"a": "a", "b": "b", None: "help"}):
            self.assertIs(is_map(TIGHT, PAIR, (hosts, good[1])), False)
            refused(self, InvalidMap, NetMap, TIGHT, PAIR, hosts)
            refused(self, InvalidMap, NetMap, TIGHT, PAIR, hosts, boxes=good[1])
        for boxes in ODD + ({**good[1], "z": None}, {"left": "left"}, {**good[1], "left": "open"}, {"a": "a"},
                            {**good[1], "left": "a"}, {**good[1], "left": ["left"]}, {**good[1], "left": False},
                            {"left": "left", "a": "a"},
                            {"left": None, "help": None}):
            self.assertIs(is_map(TIGHT, PAIR, (SAME, boxes)), False)
            if boxes is not None:
                refused(self, InvalidMap, NetMap, TIGHT, PAIR, SAME, boxes=boxes)
        for value in ODD + (good + good, list(good), good[:1], SAME, NetMap.within(TIGHT, PAIR)):
            self.assertIs(is_map(TIGHT, PAIR, value), False)

    def test_no_boxes_told(self):
        self.assertEqual(NetMap(TIGHT, PAIR, SAME).boxes, {"left": "left", "right": "right"})
        self.assertEqual(NetMap(TIGHT, PAIR, SAME, boxes=None), NetMap.within(TIGHT, PAIR))
        refused(self, InvalidMap, NetMap, TIGHT, ALONE, SAME)

    def test_errors_in_their_order(self):
        for value in NO_NETS:
            for call in (lambda *pair: NetMap(*pair, None, boxes=0), NetMap.within, lambda *pair: is_map(*pair, None)):
                refused(self, InvalidNet, call, value, value)
                refused(self, InvalidNet, call, value, PAIR)
                refused(self, InvalidNet, call, PAIR, value)


class Within(unittest.TestCase):
    def test_within(self):
        chance, found = random.Random(9), set()
        for net in random_nets(231, 60, hosts=3):
            other = looser(chance, net) if chance.random() < 0.5 else random_net(chance, hosts=3)
            hosts, boxes = {host: host for host in net}, {box: box for box in net.boxes}
            good = is_map(net, other, (hosts, boxes))
            if good:
                way = NetMap.within(net, other)
                self.assertEqual([way.net, way.other, way.hosts, way.boxes], [net, other, hosts, boxes])
            else:
                refused(self, InvalidMap, NetMap.within, net, other)
            found.add((good, net.hosts == other.hosts))
        self.assertLessEqual({(True, True), (False, False)}, found)
        refused(self, InvalidMap, NetMap.within, PAIR, TIGHT)
        # The other net may have more than this one.
        self.assertEqual(NetMap.within(PAIR, PAIR.with_host("z", "open")).hosts, SAME)


class Ways(unittest.TestCase):
    """What the methods of a map tell."""

    DROP = NetMap(TIGHT, ALONE, SAME, boxes={"left": None, "right": None})

    def test_images(self):
        net = Net({"p": ("open", QUIET), "q": ("p", QUIET), "r": ("q", QUIET)}, {"a": "r", "b": "open"})
        other = Net({"s": ("open", LENT)}, {"x": "s", "y": "open"})
        way = NetMap(net, other, {"a": "x", "b": "y"}, boxes={"p": None, "q": "s", "r": None})
        self.assertEqual([way[name] for name in ("a", "b", "p", "q", "r")], ["x", "y", None, "s", None])
        self.assertEqual([way.area(area) for area in ("open", "p", "q", "r")], ["open", "open", "s", "s"])
        self.assertEqual([way.dissolved(), self.DROP.dissolved()], [("p", "r"), ("left", "right")])
        self.assertEqual(NetMap.within(PAIR, PAIR).dissolved(), ())
        for value in ODD + ("z", "x", "s"):
            unknown(self, value, lambda name: way[name], value)
            unknown(self, value, way.area, value)
        unknown(self, "open", lambda name: way[name], "open")
        unknown(self, "a", way.area, "a")

    def test_one_to_one(self):
        self.assertIs(NetMap.within(PAIR, PAIR).is_one_to_one(), True)
        self.assertIs(self.DROP.is_one_to_one(), False)
        two = Net({}, {"a": "open", "b": "open"})
        found = [way.is_one_to_one() for way in maps(two, two)]
        self.assertEqual([found.count(True), found.count(False)], [2, 2])
        boxes = Net({"p": ("open", LENT), "q": ("open", LENT)}, {"a": "open"})
        for way in maps(boxes, boxes):
            images = list(way.boxes.values())
            self.assertIs(way.is_one_to_one(), None not in images and images[0] != images[1])

    def test_str(self):
        self.assertEqual(str(self.DROP), "map of 3 hosts, 2 boxes")
        one = Net({}, {"a": "open"})
        self.assertEqual(str(NetMap.within(one, ALONE)), "map of 1 hosts, 0 boxes")

    def test_properties_are_copies(self):
        way = NetMap.within(TIGHT, PAIR)
        hosts, boxes = dict(SAME), {"left": "left", "right": "right"}
        other = NetMap(TIGHT, PAIR, hosts, boxes=boxes)
        for found in (way.hosts, way.boxes, hosts, boxes, other.hosts, other.boxes):
            found.clear()
        self.assertEqual([way.hosts, way.boxes], [SAME, {"left": "left", "right": "right"}])
        self.assertEqual(other, way)
        self.assertEqual([way["a"], way["left"], way.area("left")], ["a", "left", "left"])

    def test_equal(self):
        way = NetMap.within(TIGHT, PAIR)
        self.assertEqual(way, NetMap(TIGHT, PAIR, dict(reversed(list(SAME.items())))))
        for other in (NetMap.within(PAIR, PAIR), NetMap.within(TIGHT, TIGHT), self.DROP):
            self.assertIs(way == other, False)
            self.assertIs(way != other, True)
        two = Net({"p": ("open", LENT), "q": ("open", LENT)}, {"a": "open", "b": "open"})
        found = list(maps(two, two))
        for one in found:
            self.assertEqual(found.count(one), 1)
        for value in ODD + ("map of 3 hosts, 2 boxes", (way.hosts, way.boxes)):
            self.assertIs(way == value, False)
            self.assertIs(way != value, True)

    def test_no_iteration(self):
        with self.assertRaises(TypeError):
            iter(self.DROP)
        with self.assertRaises(TypeError):
            list(self.DROP)


class Products(unittest.TestCase):
    def test_products(self):
        chance, many = random.Random(17), 0
        for _ in range(60):
            net = random_net(chance, boxes=2, hosts=chance.randint(1, 3))
            middle = looser(chance, net)
            last = looser(chance, middle)
            for one in list(maps(net, middle))[:6]:
                for two in list(maps(middle, last))[:6]:
                    both = one * two
                    hosts = {host: two[one[host]] for host in net}
                    boxes = {box: None if one[box] is None else two[one[box]] for box in net.boxes}
                    self.assertEqual(both, NetMap(net, last, hosts, boxes=boxes))
                    for area in net.areas:
                        self.assertEqual(both.area(area), two.area(one.area(area)))
                    many += len(both.dissolved()) > 0
        self.assertGreater(many, 20)

    def test_errors(self):
        way = NetMap.within(TIGHT, PAIR)
        for value in ODD + (way, way.hosts, "a", PAIR, NetMap.within(TIGHT, TIGHT), 2):
            refused(self, InvalidOperation, lambda other: way * other, value)
        self.assertEqual(way * NetMap.within(PAIR, PAIR), way)
        equal = Net(PAIR.boxes, PAIR.hosts, tellers=PAIR.tellers, known=PAIR.known)
        self.assertEqual(way * NetMap.within(equal, PAIR), way)


class Talks(unittest.TestCase):
    def check(self, chance, way):
        talk = random_talk(chance, way.net, many=12)
        moved = way(talk)
        self.assertEqual(len(moved), len(talk))
        for at, (sender, (word, what)) in enumerate(talk):
            self.assertEqual(moved[at], (way[sender], (word, way[what] if word == "own" else what)))
        self.assertIs(fits(way.other, moved), True)
        for numbers in CHOOSERS:
            live = carried(way.other, moved, numbers=numbers)
            for at, hearer in enumerate(hearers(way.net, talk)):
                if hearer is not None:
                    self.assertEqual(live.log()[at][3], way[hearer])

    def test_messages_arrive_at_the_images(self):
        chance, kinds_of_maps = random.Random(19), set()
        for net in random_nets(233, 70, hosts=3):
            for other in (looser(chance, net), random_net(chance, boxes=2, hosts=2)):
                found = list(itertools.islice(maps(net, other), 200))
                for way in chance.sample(found, min(len(found), 2)):
                    self.check(chance, way)
                    kinds_of_maps.add((way.is_one_to_one(), way.dissolved() != ()))
                    for host, speaker in pairs(net):
                        if way[host] != way[speaker] and hears(net, host, speaker):
                            self.assertIs(hears(other, way[host], way[speaker]), True)
        self.assertEqual(len(kinds_of_maps), 3)

    def test_examples(self):
        way = NetMap.within(TIGHT, PAIR)
        hello = Talk(("a", ("own", "help")), ("help", ("shown", 0)))
        self.assertEqual(way(hello), hello)
        self.assertEqual(way(Talk()), Talk())
        swap = NetMap(PAIR, PAIR, {"a": "b", "b": "a", "help": "help"}, boxes={"left": "right", "right": "left"})
        self.assertEqual(swap(MEET).messages()[:2], (("b", ("own", "help")), ("a", ("own", "help"))))
        self.assertEqual(swap(swap(MEET)), MEET)

    def test_errors_in_their_order(self):
        way = NetMap.within(TIGHT, PAIR)
        for value in ODD + (MEET.messages(), "a to help", LiveNet(PAIR), LiveBox("left", OPEN)):
            if not isinstance(value, Talk):
                refused(self, InvalidTalk, way, value)
        for talk in (Talk(("a", ("own", "b"))), Talk(("z", ("own", "help"))), Talk(("a", ("own", "z")))):
            refused(self, InvalidOperation, way, talk)
        apart = Net({}, {name: "open" for name in PAIR})
        refused(self, InvalidOperation, NetMap.within(apart, ALONE), MEET)
        refused(self, InvalidOperation, NetMap.within(STEPS, STEPS), MEET)
        self.assertEqual(fits(TIGHT, MEET), True)
        self.assertEqual(way(MEET), MEET)


class Guarantee(unittest.TestCase):
    def test_each_net_has_a_map_to_itself(self):
        for net in (PAIR, TIGHT, CITY, DEEP, LATE, STEPS):
            self.assertIs(NetMap.within(net, net).is_one_to_one(), True)


if __name__ == "__main__":
    unittest.main()
