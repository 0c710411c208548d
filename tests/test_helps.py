"""Helps: what hosts may know and tell in addition (stage 15, [15.1] to [15.3])."""

import itertools
import random
import unittest

from lentdoors.base.nets import Net
from lentdoors.errors import InvalidNet, InvalidOperation, TooMany
from lentdoors.know.hearing import hears, is_hearing_paper
from lentdoors.know.tables import least_table
from lentdoors.live.talks import Talk
from lentdoors.wide.helps import MAX_HELPS, bars_of, help_paper, is_help_paper, roles, with_helps
from samples import BARE, CITY, DEEP, HELPS, MEET, NO_NETS, ODD, PAIR, TIGHT, random_nets
from test_hearing import pairs
from test_openings import NO_WISHES
from test_sorts import refused
from test_tables import full_table

WISH = ("a", "b")
NO_HELPS = ODD + (
    "teller", ("teller", "a"), (("teller",),), (("teller", "z"),), (("teller", "left"),), (("teller", "a", "b"),),
    (["teller", "a"],), [("teller", "a")], (("known", "a"),), (("known", "a", "a"),), (("known", "a", "z"),),
    (("known", "help", "a"),), (("known", "a", "b"),), (("known", "a", "left"),), (("known", "a", "help", "b"),),
    (("knows", "a", "help"),), (("a", "help"),), (("known", ("a", "help")),), (("teller", "a"), ("known", "a", "help")),
    (("teller", "a"), ("teller", "a")), (("teller", "b"), ("teller", "a")), (("teller", "a"), None), ((),),
    (("teller", None),), (("known", None, "help"),), (("known", "a", ["help"]),), {("teller", "a"): True},
)


def all_helps(net):
    """All helps for the net."""
    known = [("known", *pair) for pair in pairs(net) if net.area_of(pair[1]) in net.areas_of(pair[0])]
    return sorted(known + [("teller", host) for host in net])


def subsets(helps):
    return [subset for many in range(len(helps) + 1) for subset in itertools.combinations(helps, many)]


def with_all(net, helps):
    for one in helps:
        net = net.with_teller(one[1]) if one[0] == "teller" else net.with_known(*one[1:])
    return net


def some_case(chance, net, most=4):
    """Helps and wishes of this chance."""
    helps = all_helps(net)
    wishes = sorted(chance.sample(pairs(net), chance.randint(0, min(2, len(pairs(net))))))
    return tuple(sorted(chance.sample(helps, min(len(helps), chance.randint(0, most))))), tuple(wishes)


class WithHelps(unittest.TestCase):
    def test_helps(self):
        chance = random.Random(1)
        for net in random_nets(401, 50):
            helps, _ = some_case(chance, net, 8)
            self.assertEqual(with_helps(net, helps), with_all(net, helps))
            self.assertEqual(with_helps(with_helps(net, helps), helps), with_helps(net, helps))
            self.assertEqual(with_helps(net, ()), net)

    def test_helps_that_are_there_already(self):
        helps = (("known", "a", "help"), ("teller", "help"))
        self.assertEqual(with_helps(PAIR, helps), PAIR)
        self.assertEqual(with_helps(with_helps(PAIR, helps), helps), PAIR)
        self.assertEqual(with_helps(PAIR, helps[:1] + (("teller", "a"),)), PAIR.with_teller("a"))
        self.assertEqual(with_helps(BARE, HELPS).tellers, ("aid", "help"))
        self.assertEqual(with_helps(BARE, HELPS).known, (("a", "aid"), ("a", "help"), ("b", "aid"), ("b", "help")))

    def test_many_helps(self):
        self.assertEqual(MAX_HELPS, 8)
        eight, nine = [tuple(all_helps(BARE)[-many:]) for many in (8, 9)]
        self.assertEqual(with_helps(BARE, eight), with_all(BARE, eight))
        self.assertEqual(len(roles(BARE, eight, WISH)), 8)
        calls = (help_paper, bars_of, roles, lambda net, helps, *wishes: is_help_paper(net, helps, None, *wishes))
        for call in calls:
            for wishes in ((), (WISH,)):
                with self.assertRaises(TooMany) as caught:
                    call(BARE, nine, *wishes)
                self.assertEqual(caught.exception.limit, 8)
            refused(self, InvalidOperation, call, BARE, nine, ("a", "a"))
            refused(self, InvalidOperation, call, BARE, nine + (("teller", "z"),), ("a", "a"))
        refused(self, TooMany, with_helps, BARE, nine)
        refused(self, TooMany, with_helps, BARE, tuple(all_helps(BARE)))
        refused(self, InvalidOperation, with_helps, BARE, nine[::-1])

    def test_errors_in_their_order(self):
        calls = (help_paper, bars_of, roles, lambda net, helps, *wishes: is_help_paper(net, helps, None, *wishes))
        for value in NO_NETS:
            refused(self, InvalidNet, with_helps, value, None)
            for call in calls:
                refused(self, InvalidNet, call, value, None, None)
        for helps in NO_HELPS:
            if helps != ():
                refused(self, InvalidOperation, with_helps, PAIR, helps)
                for call in calls:
                    refused(self, InvalidOperation, call, PAIR, helps)
                    refused(self, InvalidOperation, call, PAIR, helps, ("a", "a"))
        for wishes in NO_WISHES:
            for call in calls:
                refused(self, InvalidOperation, call, PAIR, (), *wishes)


class Papers(unittest.TestCase):
    """Help papers, barring subsets and roles against all subsets."""

    def check(self, net, helps, wishes):
        every = subsets(helps)
        enough = [one for one in every if all([hears(with_all(net, one), *wish) for wish in wishes])]
        lacking = [one for one in every if one not in enough]
        without = {one: tuple([part for part in helps if part not in one]) for one in every}
        least = sorted([one for one in enough if not any([set(two) < set(one) for two in enough])])
        greatest = sorted([one for one in lacking if not any([set(one) < set(two) for two in lacking])])
        barring = [one for one in every if without[one] in lacking]
        bars = sorted([one for one in barring if not any([set(two) < set(one) for two in barring])])
        found = help_paper(net, helps, *wishes)
        self.assertEqual([subset for subset, _ in found[0]], least)
        self.assertEqual([subset for subset, _, _ in found[1]], greatest)
        for subset, talks in found[0]:
            self.assertEqual(len(talks), len(wishes))
            for wish, talk in zip(wishes, talks):
                self.assertIs(is_hearing_paper(with_all(net, subset), *wish, ("talk", talk)), True)
        for subset, wish, table in found[1]:
            self.assertIn(wish, wishes)
            self.assertIs(is_hearing_paper(with_all(net, subset), *wish, ("table", table)), True)
        self.assertIs(is_help_paper(net, helps, found, *wishes), True)
        self.assertEqual(bars_of(net, helps, *wishes), tuple(bars))
        self.assertEqual(sorted([without[one] for one in greatest]), bars)
        for one in every:
            self.assertEqual(one in enough, all([set(one) & set(bar) for bar in bars]))
            self.assertEqual(one in barring, all([set(one) & set(part) for part in least]))
        self.check_roles(net, helps, wishes, (least, bars, barring))
        return found

    def check_roles(self, net, helps, wishes, sides):
        least, bars, barring = sides
        found = roles(net, helps, *wishes)
        self.assertEqual(list(found), list(helps))
        for one in helps:
            role = "idle"
            if any([one in subset for subset in least]):
                role = "needed" if all([one in subset for subset in least]) else "useful"
            self.assertEqual(found[one], role)
            self.assertEqual(role == "needed", (one,) in barring and () not in barring)
            self.assertEqual(role == "idle", not any([one in bar for bar in bars]))

    def test_small_nets(self):
        chance, seen = random.Random(2), set()
        for net in random_nets(403, 60, boxes=2, hosts=3):
            helps, wishes = some_case(chance, net)
            found = self.check(net, helps, wishes)
            seen.add((len(found[0]) > 0, len(found[1]) > 0))
        bare = Net(CITY.boxes, CITY.hosts)
        for _ in range(15):
            helps, wishes = some_case(chance, bare, 6)
            self.check(bare, helps, wishes)
        self.assertEqual(seen, {(True, True), (True, False), (False, True)})

    def test_the_example(self):
        found = self.check(BARE, HELPS, (WISH,))
        self.assertEqual(len(found[0]), 2)
        self.assertEqual(set(roles(BARE, HELPS, WISH).values()), {"useful"})

    def test_needed_useful_and_idle(self):
        base = BARE.with_known("b", "help").with_known("b", "aid").with_teller("help").with_teller("aid")
        helps = (("known", "a", "aid"), ("known", "a", "help"), ("teller", "a"))
        self.check(base, helps, (WISH,))
        self.assertEqual(list(roles(base, helps, WISH).values()), ["useful", "useful", "idle"])
        self.assertEqual(list(roles(base, helps[1:], WISH).values()), ["needed", "idle"])
        self.assertEqual(bars_of(base, helps, WISH), ((("known", "a", "aid"), ("known", "a", "help")),))

    def test_no_help_needed(self):
        found = self.check(PAIR, (("teller", "a"), ("teller", "help")), (WISH,))
        self.assertEqual([[subset for subset, _ in found[0]], found[1]], [[()], ()])
        self.assertEqual(bars_of(PAIR, (("teller", "a"),), WISH), ())
        self.assertEqual(roles(PAIR, (("teller", "a"),), WISH), {("teller", "a"): "idle"})
        self.check(TIGHT, (("teller", "a"),), ())
        self.assertEqual(help_paper(TIGHT, (), ), ((((), ()),), ()))
        self.assertEqual(roles(PAIR, (), WISH), {})

    def test_all_are_not_enough(self):
        helps = (("teller", "a"), ("teller", "b"))
        found = self.check(TIGHT, helps, (WISH,))
        self.assertEqual([found[0], [subset for subset, _, _ in found[1]]], [(), [helps]])
        self.assertEqual(bars_of(TIGHT, helps, WISH), ((),))
        self.assertEqual(set(roles(TIGHT, helps, WISH).values()), {"idle"})
        self.check(TIGHT, (), (WISH,))
        self.assertEqual(bars_of(TIGHT, (), WISH), ((),))

    def test_helps_that_are_there_already(self):
        self.check(PAIR, (("known", "a", "help"), ("teller", "a"), ("teller", "help")), (WISH, ("b", "a")))

    def test_deep_nets(self):
        helps = tuple(all_helps(DEEP)[::3])
        self.check(DEEP, helps[:5], (("a", "d"),))

    def test_new_values(self):
        helps = (("teller", "a"),)
        help_paper(TIGHT, helps, WISH)[1][0][2].clear()
        self.assertIs(is_help_paper(TIGHT, helps, help_paper(TIGHT, helps, WISH), WISH), True)
        roles(TIGHT, helps, WISH).clear()
        self.assertEqual(len(roles(TIGHT, helps, WISH)), 1)


class Judged(unittest.TestCase):
    def judged(self, value, expected, net=BARE, helps=HELPS, wishes=(WISH,)):
        self.assertIs(is_help_paper(net, helps, value, *wishes), expected)

    def changed(self, side, row):
        """The paper with another first row on one side."""
        found = list(help_paper(BARE, HELPS, WISH))
        found[side] = (row,) + found[side][1:]
        return tuple(found)

    def test_papers_of_others(self):
        least, greatest = help_paper(BARE, HELPS, WISH)
        longer = tuple([(subset, tuple([talk + talk for talk in talks])) for subset, talks in least])
        other = tuple([(subset, wish, least_table(with_all(BARE, subset + (("teller", "a"),))))
                       for subset, wish, _ in greatest])
        self.assertNotEqual(other, greatest)
        for one in (least, longer):
            for two in (greatest, other, greatest[:2] + other[2:]):
                self.judged((one, two), True)
        turned = tuple([(subset, wish, dict(reversed(list(table.items())))) for subset, wish, table in greatest])
        self.judged((least, turned), True)

    def test_rows_left_out_doubled_and_moved(self):
        found = help_paper(BARE, HELPS, WISH)
        for side in (0, 1):
            rows = found[side]
            for one in (rows[1:], rows[:-1], rows[:1] + rows, rows + rows[-1:], rows[::-1], (), list(rows),
                    rows + (None,)):
                self.judged((one, found[1]) if side == 0 else (found[0], one), False)

    def test_other_subsets(self):
        least, greatest = help_paper(BARE, HELPS, WISH)
        for at, (subset, talks) in enumerate(least):
            for other in (subset[1:], subset[:-1], subset[::-1], list(subset), subset + (("teller", "z"),),
                          tuple(sorted({*subset, *HELPS[:2]}))):
                if other != subset:
                    self.judged((least[:at] + ((other, talks),) + least[at + 1:], greatest), False)
        for at, (subset, wish, table) in enumerate(greatest):
            for other in (subset[1:], subset[::-1], list(subset), HELPS):
                if other != subset:
                    self.judged((least, greatest[:at] + ((other, wish, table),) + greatest[at + 1:]), False)
        # A row that is true, but for a subset that is greater than needed.
        more = tuple(sorted([*least, (HELPS, least[0][1])], key=lambda row: row[0]))
        self.judged((more, greatest), False)
        fewer = tuple(sorted([*greatest, ((), WISH, least_table(BARE))], key=lambda row: row[0]))
        self.judged((least, fewer), False)

    def test_other_talks_and_tables(self):
        (subset, talks), (lacking, wish, table) = [side[0] for side in help_paper(BARE, HELPS, WISH)]
        for wrong in ((), talks + talks, list(talks), talks[0], (None,), (Talk(),), (MEET.messages(),), None,
                      (talks[0] + Talk(("a", ("own", "a"))),), (Talk(("a", ("own", "help"))),)):
            self.judged(self.changed(0, (subset, wrong)), False)
        for wrong in (None, {}, {**table, "a": ()}, full_table(BARE), least_table(with_all(BARE, HELPS)), tuple(table),
                MEET):
            self.judged(self.changed(1, (lacking, wish, wrong)), False)
        for wrong in (None, ("b", "a"), wish + wish, list(wish), "a", ("a", "z"), ("help", "aid")):
            self.judged(self.changed(1, (lacking, wrong, table)), False)
        for row in ((subset,), (subset, talks, ()), [subset, talks], (talks, subset), None):
            self.judged(self.changed(0, row), False)
        for row in ((lacking, wish), (lacking, wish, table, ()), [lacking, wish, table], (lacking, table, wish), None):
            self.judged(self.changed(1, row), False)

    def test_every_value(self):
        found = help_paper(BARE, HELPS, WISH)
        self.judged(found, True)
        for value in ODD + ((), found[:1], list(found), found + found, found[::-1], (found, found), ((), ())):
            self.judged(value, False)
            self.judged((value, found[1]), False)
            self.judged((found[0], value), False)
            self.judged(self.changed(0, value), False)
            self.judged(self.changed(1, value), False)
        self.judged(found, False, wishes=())
        self.judged(found, False, wishes=(("b", "a"),))
        self.judged(found, False, helps=HELPS[1:])
        self.judged(found, False, net=BARE.with_teller("aid"))


if __name__ == "__main__":
    unittest.main()
