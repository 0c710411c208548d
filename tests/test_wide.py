"""One call on a net of four boxes and six hosts comes to its end in seconds, whatever the kinds of its boxes."""

import random
import time
import unittest

from lentdoors.base.nets import Net
from lentdoors.errors import Unheard
from lentdoors.know.hearing import hearing_paper, hears, is_hearing_paper, lines, talk_to
from lentdoors.know.short import crews, is_short, least_round, reaches, short_talk, shortened
from lentdoors.know.sorts import is_sort, sorts
from lentdoors.know.tables import is_closed, is_table, least_table, read_message, rounds
from samples import KINDS, random_nets, wide_net
from test_hearing import pairs
from test_tables import full_table, messages_of

SECONDS = 10


class Wide(unittest.TestCase):
    def call(self, function, *arguments):
        """The result of one call, or None if nobody is heard."""
        start = time.perf_counter()
        try:
            found = function(*arguments)
        except Unheard:
            found = None
        self.assertLess(time.perf_counter() - start, SECONDS, function)
        return found

    def check(self, net):
        self.assertEqual([len(net.boxes), len(net)], [4, 6])
        table = self.call(least_table, net)
        self.assertEqual(self.call(lambda one: list(rounds(one)), net)[-1], table)
        self.assertLessEqual(sum([len(table[host]) for host in net]), 1800)
        for one in (table, self.call(full_table, net)):
            self.assertIs(self.call(is_table, net, one), True)
            self.assertIs(self.call(is_closed, net, one), True)
            self.call(is_hearing_paper, net, "a", "b", ("table", one))
        self.call(read_message, net, table, *messages_of(net, table)[-1])
        for pair in pairs(net)[::7]:
            word, shown = paper = self.call(hearing_paper, net, *pair)
            self.assertIs(self.call(is_hearing_paper, net, *pair, paper), True)
            self.assertIs(self.call(hears, net, *pair), word == "talk")
            self.assertIs(self.call(talk_to, net, *pair) is not None, word == "talk")
            self.call(lines, net, *pair)
            self.check_goal(net, pair)
        for host in ("a", "f"):
            self.check_goal(net, (host, table[host][-1]))
            self.check_goal(net, (host, table[host][len(table[host]) // 2]))

    def check_goal(self, net, goal):
        talk = self.call(short_talk, net, goal)
        found = self.call(crews, net, goal)
        number = self.call(least_round, net, goal)
        self.assertEqual([found is None, number is None], [talk is None] * 2)
        if talk is not None:
            self.assertIs(self.call(is_short, net, talk, goal), True)
            self.assertIs(self.call(reaches, net, talk, goal), True)
            self.assertEqual(self.call(shortened, net, talk, goal), tuple(range(len(talk))))

    def test_four_boxes_of_one_kind(self):
        for kind in KINDS:
            self.check(wide_net(kind))

    def test_boxes_of_two_kinds(self):
        for at, kind in enumerate(KINDS):
            self.check(wide_net(kind, KINDS[(5 * at + 7) % len(KINDS)]))

    def test_many_forms(self):
        for net in random_nets(101, 25, boxes=4, hosts=6):
            self.check(net)

    def test_all_tell_and_boxes_turn(self):
        chance = random.Random(7)
        choice = [kind for kind in KINDS if kind[0] != "source" and kind[2] != "never"]
        for net in random_nets(103, 15, boxes=4, hosts=6, choice=choice):
            known = tuple([pair for pair in pairs(net) if net.area_of(pair[1]) in net.areas_of(pair[0])])
            self.check(Net(net.boxes, net.hosts, tellers=tuple(net), known=known))
            self.check(Net(net.boxes, net.hosts, tellers=tuple(net), known=known[:chance.randint(1, 4)]))

    def test_all_sorts(self):
        for kind in KINDS:
            net = wide_net(kind, ("address", "any", "lent"))
            for host in net:
                for area in net.areas_of(host):
                    found = self.call(lambda *place: list(sorts(*place)), net, host, area)
                    self.assertIs(is_sort(net, found[-1]), True)


if __name__ == "__main__":
    unittest.main()
