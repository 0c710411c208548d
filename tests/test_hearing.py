"""Who can come to hear whom (stage 10, [0.19], [0.20], [10.1], [10.2])."""

import random
import unittest

from lentdoors.base.kinds import kinds
from lentdoors.base.nets import Net
from lentdoors.errors import InvalidNet, InvalidOperation, Unheard, UnknownName
from lentdoors.know.hearing import hearing_paper, hears, is_hearing_paper, lines, talk_to
from lentdoors.know.sorts import is_single
from lentdoors.know.tables import is_closed, least_table, read_message
from lentdoors.live.nets import LiveNet
from lentdoors.live.talks import Talk, carried, fits, hearers
from samples import CITY, DEEP, KINDS, LATE, MEET, NO_NETS, ODD, PAIR, TIGHT, random_net, random_nets, wide_net
from test_sorts import STEPS, refused, unknown
from test_tables import full_table

NETS = (PAIR, TIGHT, CITY, DEEP, LATE, STEPS, Net({}, {"a": "open"}))
CHOOSERS = (None, lambda many: many, lambda many: 10 ** 39 - many, lambda many: 3 * many * many + 7)
CALLS = (hears, hearing_paper, talk_to, lines)


def pairs(net):
    return [(host, other) for host in net for other in net if host != other]


class Agreement(unittest.TestCase):
    """For all pairs of hosts, what the functions tell is the same, and is shown."""

    def check(self, net):
        live = LiveNet(net)
        for _ in range(3):
            if len(live) < 400:
                live.round()
        for host, other in pairs(net):
            word, shown = paper = hearing_paper(net, host, other)
            self.assertIs(is_hearing_paper(net, host, other, paper), True)
            self.assertIs(hears(net, host, other), word == "talk")
            if word == "talk":
                self.check_talk(net, host, other, shown)
                self.check_talk(net, host, other, talk_to(net, host, other))
            else:
                self.assertNotIn(other, live.heard(host))
                self.check_table(net, host, other, shown)
                with self.assertRaises(Unheard) as caught:
                    talk_to(net, host, other)
                self.check_table(net, host, other, caught.exception.table)

    def check_talk(self, net, host, other, talk):
        self.assertIsInstance(talk, Talk)
        self.assertIs(fits(net, talk), True)
        self.assertEqual([talk[len(talk) - 1][0], hearers(net, talk)[-1]], [other, host])
        self.assertLessEqual(len(talk), min(480, 2 * sum([len(sorts) for sorts in least_table(net).values()]) + 1))
        for numbers in CHOOSERS:
            live = carried(net, talk, numbers=numbers)
            self.assertEqual(live.log()[-1][3], host)
            self.assertIn(other, live.heard(host))

    def check_table(self, net, host, other, table):
        self.assertIs(is_closed(net, table), True)
        for sort in table[other]:
            if sort[1] in net.areas_of(other):
                self.assertNotEqual(read_message(net, table, other, sort)[0], host)

    def test_nets_of_each_form(self):
        for net in NETS + tuple(random_nets(61, 120)):
            self.check(net)

    def test_chains_without_turning(self):
        for net in random_nets(67, 30, boxes=3, hosts=3, choice=tuple(kinds(most=("source", "any", "never")))):
            self.check(net)

    def test_strict_boxes(self):
        choice = [kind for kind in KINDS if kind[1] == "door"]
        for net in random_nets(71, 30, boxes=3, hosts=4, choice=choice):
            self.check(net)

    def test_wide_nets(self):
        for at, kind in enumerate(KINDS):
            net = wide_net(kind, KINDS[-at])
            for host, other in (("a", "b"), ("d", "a"), ("e", "d"), ("f", "a")):
                word, shown = hearing_paper(net, host, other)
                if word == "talk":
                    self.check_talk(net, host, other, shown)
                else:
                    self.assertEqual(shown, least_table(net))
                self.assertIs(is_hearing_paper(net, host, other, (word, shown)), True)

    def test_examples(self):
        self.assertEqual([pair for pair in pairs(PAIR) if not hears(PAIR, *pair)], [])
        self.assertEqual([pair for pair in pairs(TIGHT) if not hears(TIGHT, *pair)], [("a", "b"), ("b", "a")])
        self.assertEqual([pair for pair in pairs(CITY) if not hears(CITY, *pair)], [("a", "b"), ("a", "c")])
        self.assertEqual([pair for pair in pairs(STEPS) if hears(STEPS, *pair)], [])

    def test_one_more_door_known_at_first(self):
        net = Net({}, {"a": "open", "b": "open", "c": "open"})
        for one, other in pairs(net):
            known = net.with_known(one, other)
            expected = sorted([(one, other), (other, one)])
            self.assertEqual([pair for pair in pairs(known) if hears(known, *pair)], expected)

    def test_looser_nets(self):
        chance = random.Random(3)
        for net in random_nets(73, 40, hosts=4):
            before = [pair for pair in pairs(net) if hears(net, *pair)]
            looser = [net.with_teller(chance.choice(tuple(net)))]
            for box in net.boxes:
                looser.append(net.with_kind(box, chance.choice(list(kinds(least=net.kind_of(box))))))
            can = [pair for pair in pairs(net) if net.area_of(pair[1]) in net.areas_of(pair[0])]
            looser.extend([net.with_known(*pair) for pair in can])
            for other in looser:
                self.assertEqual([pair for pair in before if not hears(other, *pair)], [])

    def test_a_twin_hears_and_is_heard_alike(self):
        for net in random_nets(79, 30, hosts=3):
            for host in net:
                wide = net.with_twin(host, "twin")
                for one, other in pairs(net):
                    self.assertEqual(hears(wide, one, other), hears(net, one, other))
                    if host == one:
                        self.assertEqual(hears(wide, "twin", other), hears(net, one, other))
                    if host == other:
                        self.assertEqual(hears(wide, one, "twin"), hears(net, one, other))


class Papers(unittest.TestCase):
    """Which papers of others are accepted."""

    def accepted(self, net, host, other, value, expected=True):
        self.assertIs(is_hearing_paper(net, host, other, value), expected, value)

    def test_longer_talks(self):
        for talk in (MEET, MEET + MEET, Talk(("a", ("own", "a"))) + MEET, MEET + talk_to(PAIR, "a", "b")):
            last = talk.messages()[-1]
            for host, other in pairs(PAIR):
                heard = (last[0], hearers(PAIR, talk)[-1]) == (other, host)
                self.accepted(PAIR, host, other, ("talk", talk), heard)
        self.accepted(PAIR, "a", "b", ("talk", Talk(*[("b", ("own", "help"))] * 5994) + MEET))

    def test_talks_that_show_nothing(self):
        short = Talk.of(MEET.messages()[:5])
        for value in (
            Talk(), short, MEET + Talk(("a", ("own", "a"))), MEET + Talk(("b", ("own", "help"))),
            Talk(("b", ("own", "a"))), Talk(("b", ("own", "z"))), MEET.messages(), list(MEET), None, str(MEET),
        ):
            self.accepted(PAIR, "a", "b", ("talk", value), False)
        # It fits another net, but not this one; in a third one the last message is lost.
        self.accepted(PAIR.without("help"), "a", "b", ("talk", MEET), False)
        self.accepted(TIGHT, "a", "b", ("talk", MEET), False)
        self.accepted(TIGHT, "help", "a", ("talk", Talk(("a", ("own", "help")))))
        self.accepted(TIGHT, "help", "b", ("talk", Talk(("a", ("own", "help")))), False)

    def test_other_closed_tables(self):
        least = least_table(TIGHT)
        self.accepted(TIGHT, "a", "b", ("table", least))
        self.accepted(TIGHT, "a", "b", ("table", {host: least[host] for host in reversed(list(least))}))
        self.accepted(TIGHT, "help", "a", ("table", least), False)
        more = least_table(TIGHT.with_teller("a").with_teller("b"))
        self.assertNotEqual(more, least)
        self.accepted(TIGHT, "a", "b", ("table", more))
        self.accepted(TIGHT, "b", "a", ("table", more))
        # Whatever the hosts know, two strict boxes let in nothing that they show to each other.
        self.accepted(TIGHT, "a", "b", ("table", full_table(TIGHT)))
        self.accepted(TIGHT, "a", "help", ("table", full_table(TIGHT)), False)

    def test_tables_of_looser_nets(self):
        chance, found = random.Random(9), set()
        for net in random_nets(83, 60, hosts=4):
            wide = net
            for host in net:
                wide = wide.with_teller(host) if chance.random() < 0.5 else wide
            for one, other in pairs(net):
                if net.area_of(other) in net.areas_of(one) and chance.random() < 0.3:
                    wide = wide.with_known(one, other)
            table = least_table(wide)
            for pair in pairs(net):
                self.accepted(net, *pair, ("table", table), not hears(wide, *pair))
                found.add((hears(net, *pair), hears(wide, *pair)))
        self.assertEqual(found, {(False, False), (False, True), (True, True)})

    def test_tables_that_show_nothing(self):
        least = least_table(TIGHT)
        for value in (
            {}, {**least, "z": ()}, {**least, "a": ()}, {**least, "a": list(least["a"])}, tuple(least.items()), None,
            {**least, "a": least["a"][::-1]}, {**least, "help": least["help"][:2]}, {host: () for host in least}, MEET,
        ):
            self.accepted(TIGHT, "a", "b", ("table", value), False)

    def test_every_value(self):
        least = least_table(TIGHT)
        for value in ODD + (
            ("table",), ("table", least, least), ["table", least], ("tables", least), (least, "table"), least, MEET,
            ("talk", least), ("table", MEET), (None, MEET), (["talk"], MEET), (PAIR, MEET), (("talk",), MEET),
        ):
            for net in (PAIR, TIGHT):
                self.accepted(net, "a", "b", value, False)
            for word in ("talk", "table"):
                self.accepted(TIGHT, "a", "b", (word, value), word == "table" and value is least)

    def test_wide_tables(self):
        for kind in (("door", "any", "lent"), ("address", "address", "inner"), ("door", "door", "never")):
            net = wide_net(kind, ("address", "any", "lent"))
            table = full_table(net)
            self.assertGreater(len(table["a"]), 30)
            self.assertIs(is_closed(net, table), True)
            for pair in pairs(net):
                self.accepted(net, *pair, ("table", table), False)

    def test_papers_are_new(self):
        hearing_paper(TIGHT, "a", "b")[1].clear()
        self.assertEqual(hearing_paper(TIGHT, "a", "b"), ("table", least_table(TIGHT)))


class Lines(unittest.TestCase):
    def by_the_words(self, net, host, other):
        table, found = least_table(net), []
        for one in table[other]:
            for two in table[host]:
                if (one[0], two[0]) == (host, other) and one[1] == two[1] and one[1] in net.areas_of(host) and (
                        one[1] in net.areas_of(other)):
                    there = read_message(net, table, host, two) == (other, one)
                    back = read_message(net, table, other, one) == (host, two)
                    if there and back and not (is_single(net, one) and is_single(net, two)):
                        found.append((one, two))
        return tuple(sorted(found))

    def test_against_the_words(self):
        many = 0
        for net in NETS + tuple(random_nets(89, 60, hosts=3)):
            for host, other in pairs(net):
                found = lines(net, host, other)
                self.assertEqual(found, self.by_the_words(net, host, other))
                self.assertEqual(found, tuple(sorted([pair[::-1] for pair in lines(net, other, host)])))
                many += len(found) > 1
        self.assertGreater(many, 1)

    def test_many_lines(self):
        own = {host: (host, CITY.area_of(host), None) for host in CITY}
        self.assertEqual(lines(CITY, "b", "c"), (
            (("b", "open", "right"), ("c", "open", "right")), (own["b"], own["c"]),
        ))
        self.assertEqual(lines(CITY, "a", "b"), ())
        self.assertEqual(lines(PAIR, "help", "a"), ((("help", "open", None), ("a", "open", None)),))

    def test_not_both_single(self):
        for net in random_nets(97, 30, boxes=2, hosts=3, choice=[kind for kind in KINDS if kind[0] == "door"]):
            for pair in pairs(net):
                for one, two in lines(net, *pair):
                    self.assertIs(is_single(net, one) and is_single(net, two), False)


class Errors(unittest.TestCase):
    def test_errors_in_their_order(self):
        for call in CALLS + (lambda *pair: is_hearing_paper(*pair, None),):
            for value in NO_NETS:
                refused(self, InvalidNet, call, value, None, None)
            for value in ODD + ("left", "open", "z"):
                unknown(self, value, call, PAIR, value, "z")
                unknown(self, value, call, PAIR, "a", value)
                if isinstance(value, str):
                    unknown(self, value, call, PAIR, value, value)
            for host in PAIR:
                refused(self, InvalidOperation, call, PAIR, host, host)
                refused(self, InvalidOperation, call, TIGHT, host, host)

    def test_unheard(self):
        with self.assertRaises(Unheard) as caught:
            talk_to(TIGHT, "a", "b")
        self.assertIs(is_hearing_paper(TIGHT, "a", "b", ("table", caught.exception.table)), True)
        with self.assertRaises(UnknownName):
            talk_to(TIGHT, "a", "left")

    def test_equal_calls(self):
        chance = random.Random(11)
        for _ in range(20):
            net = random_net(chance, hosts=3)
            for pair in pairs(net):
                self.assertEqual(hearing_paper(net, *pair), hearing_paper(net, *pair))


if __name__ == "__main__":
    unittest.main()
