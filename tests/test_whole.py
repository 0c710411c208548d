"""The whole program: all its parts tell the same of each pair of hosts, also behind texts."""

import random
import unittest

from lentdoors.desk.desk import Desk
from lentdoors.know.hearing import hearing_paper, hears, is_hearing_paper
from lentdoors.know.short import crews, short_talk
from lentdoors.know.tables import is_closed, least_table
from lentdoors.live.talks import hearers
from lentdoors.texts.reading import read_grid, read_net, read_table, read_talk
from lentdoors.texts.writing import grid_text, net_text, table_text, talk_text
from lentdoors.wide.choices import choice_paper, is_choice_paper
from lentdoors.wide.helps import bars_of, help_paper, is_help_paper, with_helps
from lentdoors.wide.maps import NetMap, maps
from lentdoors.wide.openings import decided, frontier, fulfils, is_frontier, net_of
from lentdoors.wide.relations import Hearing, are_alike
from samples import CITY, DEEP, LATE, PAIR, TIGHT, helped_net, random_nets
from test_helps import all_helps
from test_hearing import pairs

NETS = (PAIR, TIGHT, CITY, LATE)


def now(net):
    """The lot of the kinds that up to three boxes have."""
    return tuple([(box, net.kind_of(box)) for box in list(net.boxes)[:3]])


def read_back(paper):
    """The hearing paper with its talk or table written and read."""
    word, shown = paper
    return (word, read_talk(talk_text(shown)) if word == "talk" else read_table(table_text(shown)))


class Agreement(unittest.TestCase):
    def check(self, net, chance):
        hearing, desk = Hearing(net), Desk()
        desk.run("new w " + net_text(net).replace("\n", "; "))
        net_read = read_net(net_text(net))
        self.assertEqual([net_read, desk.net_of("w"), are_alike(net, net_read)], [net, net, True])
        helps = tuple(sorted(chance.sample(all_helps(net), min(3, len(all_helps(net))))))
        for pair in pairs(net):
            expected = hears(net, *pair)
            paper = hearing_paper(net, *pair)
            self.assertEqual(
                [paper[0], pair in hearing, fulfils(net, pair), desk.run(f"hears w {pair[0]} {pair[1]}")],
                ["talk" if expected else "table", expected, expected, "yes" if expected else "no"],
            )
            self.assertIs(is_hearing_paper(net_read, *pair, read_back(paper)), True)
            self.check_papers(net, pair, expected, helps)
            self.assertEqual(desk.run(f"reach w {pair[0]} {pair[1]}"), "heard" if expected else "never")
            self.assertEqual(pair[1] in desk.run(f"heard w {pair[0]}").split(" "), expected)
            self.assertEqual(hearers(net, desk.talk_of("w")), tuple([entry[3] for entry in desk.live_of("w").log()]))
            if expected:
                self.assertTrue(crews(net, pair))
                self.assertIs(is_hearing_paper(net, *pair, ("talk", read_talk(talk_text(short_talk(net, pair))))), True)
        self.assertEqual(read_grid(grid_text(tuple(net), hearing.pairs())), (tuple(net), hearing.pairs()))
        self.assertIs(is_closed(net_read, read_table(table_text(least_table(net)))), True)

    def check_papers(self, net, pair, expected, helps):
        lot = now(net)
        if lot:
            offer = {box: (kind,) for box, kind in lot}
            prices = {box: {kind: 1} for box, kind in lot}
            found = frontier(net, offer, pair)
            self.assertEqual([len(found[0]), len(found[1]), decided(found, lot)], [expected, not expected, expected])
            chosen = choice_paper(net, prices, (pair,), ())
            self.assertEqual([chosen[0], choice_paper(net, prices, (), (pair,))[0]],
                             ["lot", "none"] if expected else ["none", "lot"])
            self.assertIs(is_frontier(net, offer, found, pair), True)
            self.assertIs(is_choice_paper(net, prices, (pair,), (), chosen), True)
            self.assertEqual(net_of(net, lot), net)
            if expected:
                paper = ("talk", read_talk(talk_text(found[0][0][1][0])))
            else:
                paper = ("table", read_table(table_text(found[1][0][2])))
            self.assertIs(is_hearing_paper(net, *pair, paper), True)
        found = help_paper(net, helps, pair)
        self.assertIs(is_help_paper(net, helps, found, pair), True)
        self.assertEqual(() in [row[0] for row in found[0]], expected)
        self.assertEqual(bars_of(net, helps, pair) == (), expected)
        self.assertEqual(bars_of(net, helps, pair) == ((),), not hears(with_helps(net, helps), *pair))

    def test_drawn_nets(self):
        chance = random.Random(1)
        drawn = random_nets(801, 30, hosts=3) + random_nets(803, 10, boxes=4, hosts=4)
        for net in NETS + tuple(drawn) + tuple([helped_net(chance) for _ in range(30)]):
            self.check(net, chance)

    def test_a_deep_net(self):
        self.check(DEEP, random.Random(2))

    def test_maps_and_hearing(self):
        for net in NETS:
            hearing = Hearing(net)
            for way in list(maps(net, net))[:20]:
                for host, other in hearing:
                    if way[host] != way[other]:
                        self.assertIn((way[host], way[other]), hearing)
            self.assertEqual(Hearing(net.renamed({"a": "z"})) == hearing, False)
            self.assertIs(hearing.is_within(Hearing(net.with_teller("a"))), True)
            self.assertIs(NetMap.within(net, net.with_teller("a")).is_one_to_one(), True)


if __name__ == "__main__":
    unittest.main()
