"""One call of the later stages ends in seconds on four boxes and six hosts, in milliseconds on small nets, and within a
minute with 729 lots or eight helps."""

import random
import time
import unittest

from lentdoors.base.nets import Net
from lentdoors.desk.desk import Desk
from lentdoors.know.tables import least_table
from lentdoors.live.talks import Talk
from lentdoors.texts.reading import read_net, read_table, read_talk
from lentdoors.texts.writing import net_text, table_text, talk_text
from lentdoors.wide.choices import choice_paper, is_choice_paper, ranked
from lentdoors.wide.helps import bars_of, help_paper, is_help_paper, roles, with_helps
from lentdoors.wide.maps import NetMap, is_map, maps
from lentdoors.wide.openings import decided, frontier, fulfils, is_frontier, lots, net_of
from lentdoors.wide.relations import Hearing, are_alike
from samples import KINDS, LATE, MEET, NEVER, PAIR, TIGHT, random_nets, wide_net
from test_helps import all_helps
from test_hearing import pairs
from test_relations import random_talk
from test_tables import full_table

WIDE = [wide_net(kind, KINDS[(5 * at + 7) % len(KINDS)]) for at, kind in enumerate(KINDS)] + random_nets(
    901, 20, boxes=4, hosts=6)


class Timed(unittest.TestCase):
    limit = 10

    def call(self, function, *arguments):
        """The result of one call, which ends in time."""
        start = time.perf_counter()
        found = function(*arguments)
        self.assertLess(time.perf_counter() - start, self.limit, function)
        return found


class Seconds(Timed):
    def test_hearings(self):
        for net in WIDE:
            hearing = self.call(Hearing, net)
            for call in (hearing.pairs, hearing.both, hearing.lined, lambda: hearing - hearing,
                    lambda: hearing.is_within(hearing)):
                self.call(call)
            for pair in pairs(net):
                self.call(hearing.relay, *pair)
                self.call(hearing.bars, *pair)
            self.assertIs(self.call(are_alike, net, net), True)

    def test_maps(self):
        chance = random.Random(1)
        for net in WIDE:
            way = self.call(NetMap.within, net, net)
            self.assertIs(self.call(is_map, net, net, (way.hosts, way.boxes)), True)
            self.assertEqual(self.call(lambda: way * way), way)
            talk = random_talk(chance, net, 40)
            self.assertEqual(self.call(way, talk), talk)
            self.call(lambda: [one for _, one in zip(range(2000), maps(net, net))])

    def test_many_maps(self):
        # All of more than ten thousand maps are told in seconds.
        flat = Net({}, {name: "open" for name in "abcdef"}, known=(("a", "b"),))
        self.assertGreater(len(self.call(lambda: list(maps(flat, flat)))), 2000)
        loose = Net({}, flat.hosts)
        self.assertEqual(len(self.call(lambda: list(maps(loose, loose)))), 6 ** 6)
        boxes = {box: ("open", ("source", "any", "lent")) for box in "pqrs"}
        many = Net(boxes, {name: "open" for name in "ab"})
        self.assertEqual(len(self.call(lambda: list(maps(many, many)))), 4 * 5 ** 4)

    def test_maps_that_are_hard_to_find(self):
        boxes = {box: ("open", ("source", "any", "lent")) for box in "pqrs"}
        net = Net(boxes, {name: "open" for name in "abcdef"}, known=tuple(pairs(Net({},
            {name: "open" for name in "abcdef"}))))
        other = Net(boxes, net.hosts, known=tuple([pair for pair in net.known if "f" not in pair]))
        self.call(lambda: next(iter(maps(net, net))))
        self.call(lambda: next(iter(maps(net, other))))
        behind = Net(boxes, {name: "pqrs"[at % 4] for at, name in enumerate("abcdef")}, tellers=tuple("abcdef"))
        self.assertEqual(self.call(lambda: list(maps(behind, other))), [])

    def test_texts(self):
        for net in WIDE:
            self.assertEqual(self.call(read_net, self.call(net_text, net)), net)
            for table in (least_table(net), full_table(net)):
                self.assertEqual(self.call(read_table, self.call(table_text, table)), table)
        longest = Talk(*[("a", ("shown", at - 1)) if at % 2 else ("b", ("own", "a")) for at in range(6000)])
        self.assertEqual(self.call(read_talk, self.call(talk_text, longest)), longest)

    def test_fulfils(self):
        for net in WIDE:
            self.call(fulfils, net, *pairs(net))


class Minute(Timed):
    """729 lots and eight helps on nets of four boxes and six hosts."""
    limit = 60

    def offers(self, net):
        boxes = list(net.boxes)
        return ({boxes[0]: KINDS, boxes[3]: KINDS}, {box: NEVER for box in boxes[1:]})

    def test_lots(self):
        chance = random.Random(3)
        for net in WIDE[::4]:
            wishes = tuple(sorted(chance.sample(pairs(net), 4)))
            for offer in self.offers(net):
                self.assertEqual(len(self.call(lambda: list(lots(net, offer)))), 729)
                found = self.call(frontier, net, offer, *wishes)
                self.assertIs(self.call(is_frontier, net, offer, found, *wishes), True)
                lot = tuple([(box, net.kind_of(box)) for box in sorted(offer)])
                if all([kind in offer[box] for box, kind in lot]):
                    self.assertIs(self.call(decided, found, lot), fulfils(self.call(net_of, net, lot), *wishes))

    def test_wide_frontiers(self):
        # Two strict boxes between hosts that know a helper: here both sides have many lots.
        boxes = {box: ("open", ("door", "door", "never")) for box in "pqrs"}
        net = Net(boxes, {"a": "p", "b": "q", "c": "r", "d": "s", "e": "p", "f": "open"}, tellers=("f",),
                  known=tuple([(host, "f") for host in "abcde"]))
        for offer in ({"p": KINDS, "q": KINDS}, {"p": NEVER, "q": NEVER, "r": NEVER}):
            for wishes in ((("a", "b"), ("b", "a")), (("a", "b"), ("b", "c"), ("c", "a")), tuple(pairs(net))):
                found = self.call(frontier, net, offer, *wishes)
                self.assertIs(self.call(is_frontier, net, offer, found, *wishes), True)

    def test_choices(self):
        chance = random.Random(4)
        for net in WIDE[::4]:
            for offer in self.offers(net):
                prices = {box: {kind: chance.randint(0, 9) for kind in offer[box]} for box in offer}
                self.assertEqual(len(self.call(lambda: list(ranked(net, prices)))), 729)
                wishes, bans = [tuple(sorted(chance.sample(pairs(net), 3))) for _ in range(2)]
                for asked in ((wishes, bans), (wishes, wishes), ((), bans), ((), tuple(pairs(net)))):
                    found = self.call(choice_paper, net, prices, *asked)
                    self.assertIs(self.call(is_choice_paper, net, prices, *asked, found), True)

    def test_eight_helps(self):
        chance = random.Random(5)
        for net in WIDE[::4]:
            bare = Net(net.boxes, net.hosts)
            for one in (net, bare):
                helps = tuple(sorted(chance.sample(all_helps(one), 8)))
                wishes = tuple(sorted(chance.sample(pairs(one), 2)))
                found = self.call(help_paper, one, helps, *wishes)
                self.assertIs(self.call(is_help_paper, one, helps, found, *wishes), True)
                for call in (bars_of, roles):
                    self.call(call, one, helps, *wishes)
                self.call(with_helps, one, helps)


class Milliseconds(Timed):
    """One or two boxes and three hosts; the limit leaves room for a machine that is busy."""
    limit = 0.25

    def test_small_nets(self):
        for net in [PAIR, TIGHT, LATE] + random_nets(903, 30, boxes=2, hosts=3) + random_nets(905, 30, boxes=1,
                hosts=3):
            hearing = self.call(Hearing, net)
            for call in (hearing.both, hearing.lined):
                self.call(call)
            box, pair = tuple(net.boxes)[0], pairs(net)[0]
            for call in (hearing.relay, hearing.bars):
                self.call(call, *pair)
            self.call(are_alike, net, net)
            way = self.call(NetMap.within, net, net)
            self.call(lambda: [one for _, one in zip(range(100), maps(net, net))])
            self.call(lambda: way * way)
            offer = {box: NEVER}
            found = self.call(frontier, net, offer, pair)
            self.assertIs(self.call(is_frontier, net, offer, found, pair), True)
            helps = tuple(all_helps(net)[:3])
            self.assertIs(self.call(is_help_paper, net, helps, self.call(help_paper, net, helps, pair), pair), True)
            prices = {box: {kind: at for at, kind in enumerate(NEVER)}}
            found = self.call(choice_paper, net, prices, (pair,), ())
            self.assertIs(self.call(is_choice_paper, net, prices, (pair,), (), found), True)
            self.assertEqual(self.call(read_net, self.call(net_text, net)), net)
            desk = Desk()
            self.call(desk.run, "new w " + net_text(net).replace("\n", "; "))
            self.call(desk.run, f"reach w {pair[0]} {pair[1]}")
        self.assertEqual(self.call(read_talk, self.call(talk_text, MEET)), MEET)


if __name__ == "__main__":
    unittest.main()
