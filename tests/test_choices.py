"""Choices: prices, ranks, choice papers and reasons (stage 16, [16.1] to [16.3])."""

import itertools
import random
import unittest

from lentdoors.base.kinds import is_as_loose
from lentdoors.base.nets import Net
from lentdoors.errors import InvalidNet, InvalidOperation, TooMany
from lentdoors.know.hearing import hearing_paper, hears, is_hearing_paper
from lentdoors.know.tables import least_table
from lentdoors.live.talks import Talk
from lentdoors.wide.choices import choice_paper, excludes, is_choice_paper, price_of, ranked
from lentdoors.wide.openings import lots, net_of
from samples import CITY, DEEP, KINDS, MEET, NEVER, NO_NETS, ODD, OPEN, PAIR, STRICT, TIGHT, helped_net, random_nets
from test_openings import NO_LOTS, NO_WISHES, THREE, is_looser_lot, some_offer, some_wishes
from test_sorts import refused
from test_tables import full_table

PRICES = {"left": {("address", "any", "never"): 5, OPEN: 2}, "right": {STRICT: 4, OPEN: 1}}
FLAT = {box: {kind: 0 for kind in NEVER} for box in ("left", "right")}
HUGE = 10 ** 40 - 1
NO_PRICES = ODD + (
    {"left": {}}, {"left": {OPEN: -1}}, {"left": {OPEN: True}}, {"left": {OPEN: None}}, {"left": {OPEN: "1"}},
    {"left": {"source": 1}}, {"left": {OPEN[:2]: 1}}, {"left": (OPEN,)}, {"left": [(OPEN, 1)]}, {"left": None},
    {"left": {OPEN: 1, "x": 2}}, {"left": {OPEN: 1, STRICT: -1}}, {0: {OPEN: 1}, "left": {OPEN: 1}},
    {"left": {OPEN: 1}, None: 1},
    {"left": {OPEN: 1}, "right": {}}, {"Left": {OPEN: 1}}, {"open": {OPEN: 1}}, {0: {OPEN: 1}}, {("left",): {OPEN: 1}},
    {name: {OPEN: 1} for name in ("l", "m", "n", "o")}, (("left", {OPEN: 1}),), {"left": {OPEN: [1]}},
    {"left": {None: 1}},
)


def suits(net, lot, wishes, bans):
    net = net_of(net, lot)
    return all([hears(net, *wish) for wish in wishes]) and not any([hears(net, *ban) for ban in bans])


def some_prices(chance, net, top):
    """A price list of this chance, its keys in some order."""
    offer = some_offer(chance, net, 2, 5)
    return {box: {kind: chance.randint(0, top) for kind in chance.sample(offer[box], len(offer[box]))} for box in offer}


def by_rank(net, prices):
    offer = {box: tuple(sorted(prices[box])) for box in prices}
    return sorted(lots(net, offer), key=lambda lot: (sum([prices[box][kind] for box, kind in lot]), lot))


class Prices(unittest.TestCase):
    def test_ranks(self):
        chance, equal = random.Random(1), 0
        for net in random_nets(501, 60, boxes=3):
            prices = some_prices(chance, net, chance.choice((0, 2, 100, HUGE)))
            found = list(ranked(net, prices))
            self.assertEqual(found, by_rank(net, prices))
            costs = [price_of(prices, lot) for lot in found]
            self.assertEqual(costs, sorted(costs))
            equal += len(set(costs)) < len(costs)
            for lot in found:
                self.assertEqual(price_of(prices, lot), sum([prices[box][kind] for box, kind in lot]))
            turned = {box: dict(reversed(list(prices[box].items()))) for box in reversed(list(prices))}
            self.assertEqual(list(ranked(net, turned)), found)
        self.assertGreater(equal, 10)

    def test_equal_prices(self):
        self.assertEqual(list(ranked(PAIR, FLAT)), list(lots(PAIR, {"left": NEVER, "right": NEVER})))
        few = {"right": {STRICT: 3, OPEN: 1}, "left": {OPEN: 2, STRICT: 0}}
        self.assertEqual([price_of(few, lot) for lot in ranked(PAIR, few)], [1, 3, 3, 5])
        self.assertEqual(list(ranked(PAIR, few))[1:3], [
            (("left", STRICT), ("right", STRICT)), (("left", OPEN), ("right", OPEN)),
        ])

    def test_prices_of_forty_digits(self):
        prices = {box: {OPEN: HUGE, STRICT: HUGE - 1} for box in ("left", "mid", "right")}
        found = list(ranked(THREE, prices))
        self.assertEqual(price_of(prices, found[-1]), 3 * HUGE)
        self.assertEqual(price_of(prices, found[0]), 3 * HUGE - 3)
        self.assertEqual([price_of(prices, lot) - 3 * HUGE for lot in found], [-3, -2, -2, -2, -1, -1, -1, 0])

    def test_many_lots(self):
        wide = {box: {kind: 1 for kind in KINDS} for box in ("left", "right")}
        self.assertEqual(len(list(ranked(PAIR, wide))), 729)
        more = {**wide, "mid": {OPEN: 1, STRICT: 1}}
        found = ranked(THREE, more)
        with self.assertRaises(TooMany) as caught:
            list(found)
        self.assertEqual(caught.exception.limit, 729)
        refused(self, TooMany, choice_paper, THREE, more, (), ())
        refused(self, TooMany, is_choice_paper, THREE, more, (), (), None)
        refused(self, InvalidOperation, choice_paper, THREE, more, (("a", "a"),), ())
        refused(self, InvalidOperation, is_choice_paper, THREE, more, (), (("a", "a"),), None)
        self.assertEqual(price_of(more, (("left", OPEN), ("mid", OPEN), ("right", OPEN))), 3)

    def test_errors_of_price_of(self):
        good = (("left", OPEN), ("right", OPEN))
        for prices in NO_PRICES:
            refused(self, InvalidOperation, price_of, prices, good)
            refused(self, InvalidOperation, price_of, prices, None)
        for lot in NO_LOTS + ((("left", OPEN),), (("left", STRICT), ("right", OPEN)), (("left", OPEN), ("z", OPEN)),
                good[::-1],
                              (("left", OPEN), ("mid", OPEN), ("right", OPEN))):
            refused(self, InvalidOperation, price_of, PRICES, lot)
        self.assertEqual(price_of(PRICES, good), 3)
        # No net is asked, so boxes of any names may stand in it.
        self.assertEqual(price_of({"z": {STRICT: 7}}, (("z", STRICT),)), 7)

    def test_errors_of_ranked(self):
        for value in NO_NETS:
            found = ranked(value, None)
            refused(self, InvalidNet, lambda: list(found))
        for prices in NO_PRICES + ({"z": {OPEN: 1}}, {"a": {OPEN: 1}}, {"left": {OPEN: 1}, "z": {OPEN: 1}}):
            found = ranked(PAIR, prices)
            refused(self, InvalidOperation, lambda: list(found))
            refused(self, InvalidOperation, choice_paper, PAIR, prices, None, None)
            refused(self, InvalidOperation, is_choice_paper, PAIR, prices, None, None, None)


class Papers(unittest.TestCase):
    def check(self, net, prices, wishes, bans):
        found = choice_paper(net, prices, wishes, bans)
        order = by_rank(net, prices)
        good = [lot for lot in order if suits(net, lot, wishes, bans)]
        self.assertEqual(found[0], "lot" if good else "none")
        before = order
        if good:
            _, lot, talks, tables, _ = found
            self.assertEqual(lot, good[0])
            before = order[:order.index(lot)]
            self.assertEqual([len(found), len(talks), len(tables)], [5, len(wishes), len(bans)])
            for wish, talk in zip(wishes, talks):
                self.assertIs(is_hearing_paper(net_of(net, lot), *wish, ("talk", talk)), True)
            for ban, table in zip(bans, tables):
                self.assertIs(is_hearing_paper(net_of(net, lot), *ban, ("table", table)), True)
        else:
            self.assertEqual(len(found), 2)
        self.check_reasons(net, (order, before), wishes, bans, found[-1])
        self.assertIs(is_choice_paper(net, prices, wishes, bans, found), True)
        return found

    def check_reasons(self, net, ranks, wishes, bans, reasons):
        order, before = ranks
        left = list(before)
        self.assertIsInstance(reasons, tuple)
        for word, lot, pair, shown in reasons:
            self.assertIn(lot, order)
            self.assertIn(pair, wishes if word == "unheard" else bans)
            paper = ("table", shown) if word == "unheard" else ("talk", shown)
            self.assertIn(word, ("unheard", "heard"))
            self.assertIs(is_hearing_paper(net_of(net, lot), *pair, paper), True)
            for other in order:
                gone = is_looser_lot(lot, other) if word == "unheard" else is_looser_lot(other, lot)
                self.assertIs(excludes((word, lot, pair, shown), other), gone)
            kept = [other for other in left if not excludes((word, lot, pair, shown), other)]
            self.assertLess(len(kept), len(left))
            left = kept
        self.assertEqual(left, [])

    def test_nets_of_each_form(self):
        chance, words = random.Random(2), []
        drawn = random_nets(503, 20, boxes=3, hosts=3) + [helped_net(chance) for _ in range(60)] + 20 * [PAIR, CITY]
        for net in drawn:
            wishes, bans = some_wishes(chance, net, 2), some_wishes(chance, net, 2)
            prices = some_prices(chance, net, chance.choice((0, 2, 100)))
            if net in (PAIR, CITY):
                prices = {box: {kind: chance.randint(0, 20) for kind in NEVER} for box in net.boxes}
            found = self.check(net, prices, wishes, bans)
            words.append((found[0], tuple(sorted({reason[0] for reason in found[-1]}))))
        self.assertEqual(set(words), {
            ("lot", ()), ("lot", ("heard",)), ("lot", ("unheard",)), ("lot", ("heard", "unheard")),
            ("none", ("heard",)), ("none", ("unheard",)), ("none", ("heard", "unheard")),
        })

    def test_a_wish_that_is_banned(self):
        for net in (PAIR, CITY, TIGHT):
            prices = {box: {kind: 1 for kind in NEVER} for box in net.boxes}
            self.assertEqual(self.check(net, prices, (("a", "b"),), (("a", "b"),))[0], "none")

    def test_no_wishes_and_no_bans(self):
        found = self.check(PAIR, PRICES, (), ())
        self.assertEqual(found, ("lot", (("left", OPEN), ("right", OPEN)), (), (), ()))
        self.assertEqual(self.check(PAIR, {"left": {STRICT: 0}}, (), (("a", "help"),))[0], "none")

    def test_not_monotone(self):
        # A looser lot breaks the ban, a stricter one the wish; what suits stands between them.
        prices = {"left": {STRICT: 1, ("address", "any", "never"): 9, ("source", "any", "never"): 0}}
        net = PAIR.with_kind("right", ("source", "door", "never"))
        for wishes in ((("a", "b"),), (("b", "a"),), ()):
            for bans in ((("b", "a"),), (("a", "b"),), ()):
                self.check(net, prices, wishes, bans)

    def test_price_lists_with_keys_in_any_order(self):
        turned = {box: dict(reversed(list(PRICES[box].items()))) for box in reversed(list(PRICES))}
        arguments = ((("a", "b"),), (("b", "a"),))
        self.assertEqual(choice_paper(PAIR, turned, *arguments), choice_paper(PAIR, PRICES, *arguments))

    def test_errors_in_their_order(self):
        for call in (choice_paper, lambda *four: is_choice_paper(*four, None)):
            for value in NO_NETS:
                refused(self, InvalidNet, call, value, None, None, None)
            for wishes in [*NO_WISHES, None, [("a", "b")], 0, "a", {("a", "b"): 1}]:
                if wishes != ():
                    refused(self, InvalidOperation, call, PAIR, PRICES, wishes, None)
                    refused(self, InvalidOperation, call, PAIR, PRICES, wishes, ())
                    refused(self, InvalidOperation, call, PAIR, PRICES, (), wishes)
        refused(self, InvalidOperation, choice_paper, PAIR, {**PRICES, "z": {OPEN: 1}}, (), ())
        refused(self, InvalidOperation, choice_paper, DEEP, {box: {OPEN: 1} for box in DEEP.boxes}, (), ())

    def test_new_values(self):
        arguments = (PAIR, PRICES, (("a", "b"),), (("b", "a"),))
        choice_paper(*arguments)[3][0].clear()
        self.assertIs(is_choice_paper(*arguments, choice_paper(*arguments)), True)


class Judged(unittest.TestCase):
    WISHES, BANS = (("a", "b"), ("help", "a")), (("b", "a"),)
    PRICES = {"left": {("address", "any", "never"): 5, OPEN: 2, STRICT: 1}, "right": {STRICT: 4, OPEN: 1}}

    def judged(self, value, expected, **other):
        told = {"net": PAIR, "prices": self.PRICES, "wishes": self.WISHES, "bans": self.BANS, **other}
        self.assertIs(is_choice_paper(told["net"], told["prices"], told["wishes"], told["bans"], value), expected)

    def paper(self):
        found = choice_paper(PAIR, self.PRICES, self.WISHES, self.BANS)
        self.assertEqual(found[0], "lot")
        self.assertGreater(len(found[4]), 1)
        return found

    def all_reasons(self, lot):
        """All reasons of this lot, with the papers of this package."""
        net, found = net_of(PAIR, lot), []
        for word, pairs_of_word, paper in (("unheard", self.WISHES, "table"), ("heard", self.BANS, "talk")):
            for pair in pairs_of_word:
                if hearing_paper(net, *pair)[0] == paper:
                    found.append((word, lot, pair, hearing_paper(net, *pair)[1]))
        return found

    def test_other_reasons(self):
        found = self.paper()
        order = by_rank(PAIR, self.PRICES)
        before = order[:order.index(found[1])]
        every = [reason for lot in order for reason in self.all_reasons(lot)]
        good = 0
        for many in (1, 2, 3):
            for reasons in itertools.product(every, repeat=many):
                left, needed = before, True
                for reason in reasons:
                    kept = [lot for lot in left if not excludes(reason, lot)]
                    needed, left = needed and len(kept) < len(left), kept
                self.judged((*found[:4], reasons), needed and not left)
                good += needed and not left
        self.assertGreater(good, 1)

    def test_other_talks_and_tables(self):
        _, lot, talks, tables, reasons = self.paper()
        longer = tuple([talk + talk for talk in talks])
        turned = tuple([dict(reversed(list(table.items()))) for table in tables])
        self.judged(("lot", lot, longer, turned, reasons), True)
        other = least_table(net_of(PAIR, lot).with_teller("b"))
        self.judged(("lot", lot, talks, (other,), reasons),
                    is_hearing_paper(net_of(PAIR, lot), "b", "a", ("table", other)))
        for wrong in ((), talks[:1], talks[::-1], talks + talks, list(talks), None, (talks[0], Talk()),
                (talks[0], None),
                      (talks[0], talks[1] + Talk(("b", ("own", "b")))), (talks[0].messages(), talks[1]), (MEET, MEET)):
            self.judged(("lot", lot, wrong, tables, reasons), False)
        for wrong in ((), tables + tables, list(tables), None, ({},), (None,), tables[0], ({**tables[0], "a": ()},),
                      (full_table(net_of(PAIR, lot)),), (least_table(PAIR),)):
            self.judged(("lot", lot, talks, wrong, reasons), False)

    def test_other_reasons_of_each_part(self):
        found = self.paper()
        for at, (word, lot, pair, shown) in enumerate(found[4]):
            other = {"unheard": "heard", "heard": "unheard"}[word]
            for wrong in (
                (other, lot, pair, shown), ("Heard", lot, pair, shown), (None, lot, pair, shown), (word, lot, pair),
                (word, lot, pair, None), (word, lot, pair, Talk()), (word, lot, pair, {}),
                (word, lot, pair[::-1], shown),
                (word, lot, None, shown), (word, lot, list(pair), shown), (word, lot, ("a", "help"), shown),
                (word, lot[:1], pair, shown), (word, lot[::-1], pair, shown), (word, None, pair, shown),
                (word, (("left", KINDS[0]), lot[1]), pair, shown), [word, lot, pair, shown],
                (word, lot, pair, shown, 0), None,
            ):
                self.judged((*found[:4], found[4][:at] + (wrong,) + found[4][at + 1:]), False)

    def test_reasons_left_out_doubled_and_turned(self):
        found = self.paper()
        reasons = found[4]
        needless = [reason for lot in by_rank(PAIR, self.PRICES) for reason in self.all_reasons(lot)]
        for wrong in [reasons[1:], reasons[:-1], reasons + reasons, reasons[:1] + reasons, (), list(reasons), None,
                0] + [
                reasons + (one,) for one in needless]:
            self.judged((*found[:4], wrong), False)

    def test_needless_when_turned(self):
        # With the looser reason first, the stricter one excludes nothing more.
        prices = {"left": {STRICT: 0, ("address", "address", "never"): 1}}
        net = PAIR.with_kind("right", ("source", "door", "never"))
        one, two = [("unheard", (("left", kind),), ("a", "b"), least_table(net.with_kind("left", kind)))
                    for kind in prices["left"]]
        self.assertIs(is_as_loose(two[1][0][1], STRICT), True)
        told = {"net": net, "prices": prices, "wishes": (("a", "b"),), "bans": ()}
        self.judged(("none", (two,)), True, **told)
        self.judged(("none", (one, two)), True, **told)
        self.judged(("none", (two, one)), False, **told)
        self.judged(("none", (one,)), False, **told)
        self.judged(("none", ()), False, **told)

    def test_another_lot(self):
        found = self.paper()
        order = by_rank(PAIR, self.PRICES)
        for lot in order:
            net = net_of(PAIR, lot)
            if lot != found[1]:
                self.judged(("lot", lot, *found[2:]), False)
                talks = tuple([hearing_paper(net, *wish)[1] for wish in self.WISHES])
                tables = tuple([hearing_paper(net, *ban)[1] for ban in self.BANS])
                self.judged(("lot", lot, talks, tables, found[4]), False)
        # Another lot that suits, but does not come first, cannot be shown to.
        wide = {"left": {**self.PRICES["left"], ("address", "address", "never"): 3}, "right": self.PRICES["right"]}
        self.judged(found, choice_paper(PAIR, wide, self.WISHES, self.BANS)[1] == found[1] and found == choice_paper(
            PAIR, wide, self.WISHES, self.BANS), prices=wide)

    def test_none_or_a_lot(self):
        found = self.paper()
        self.judged(("none", found[4]), False)
        self.judged(("none", ()), False)
        none = choice_paper(PAIR, self.PRICES, self.WISHES, self.WISHES)
        self.judged(none, True, bans=self.WISHES)
        self.judged(none, False)
        self.judged(("none", none[1], ()), False, bans=self.WISHES)
        self.judged(("lot", none[1]), False, bans=self.WISHES)
        for lot in by_rank(PAIR, self.PRICES):
            self.judged(("lot", lot, found[2], (), none[1]), False, bans=self.WISHES)

    def test_a_reason_of_a_lot_that_comes_later(self):
        prices = {"left": {("source", "door", "never"): 0, ("source", "any", "never"): 1}}
        net, wish = TIGHT, ("a", "b")
        self.assertEqual([hears(net.with_kind("left", kind), *wish) for kind in prices["left"]], [False, True])
        found = choice_paper(net, prices, (wish,), ())
        self.assertEqual(found[1], (("left", ("source", "any", "never")),))
        self.judged(found, True, net=net, prices=prices, wishes=(wish,), bans=())
        # All kinds but one are excluded by the reason of the loosest of them, which may rank last.
        prices = {"left": {STRICT: 0, ("source", "door", "never"): 9, ("source", "any", "never"): 1}}
        late = ("unheard", (("left", ("source", "door", "never")),), wish, found[4][0][3])
        self.judged((*found[:4], (late,)), True, net=net, prices=prices, wishes=(wish,), bans=())

    def test_every_value(self):
        found = self.paper()
        self.judged(found, True)
        for value in ODD + ((), found[:4], list(found), found + found, ("lot",) + found, ("none",), ("none", None),
                "none"):
            self.judged(value, False)
            for at in range(5):
                self.judged(found[:at] + (value,) + found[at + 1:], value == () == found[at])
            self.judged(("none", value), False)
            self.judged((value, found[4]), False)


class Excludes(unittest.TestCase):
    def test_both_words(self):
        for one in KINDS:
            for two in KINDS[::5]:
                lot, other = (("p", one), ("q", OPEN)), (("p", two), ("q", OPEN))
                for shown in (None, Talk(), {}):
                    self.assertIs(excludes(("unheard", lot, None, shown), other), is_as_loose(one, two))
                    self.assertIs(excludes(("heard", lot, ("a", "b"), shown), other), is_as_loose(two, one))
        lot, strict = (("p", OPEN), ("q", STRICT)), (("p", STRICT), ("q", STRICT))
        self.assertEqual([excludes(("heard", lot, 0, 0), strict), excludes(("heard", strict, 0, 0), lot)],
            [False, True])
        self.assertEqual([excludes(("unheard", lot, 0, 0), strict), excludes(("unheard", strict, 0, 0), lot)],
            [True, False])
        cross = (("p", STRICT), ("q", OPEN))
        for word in ("heard", "unheard"):
            self.assertEqual([excludes((word, lot, 0, 0), cross), excludes((word, cross, 0, 0), lot)], [False, False])

    def test_errors(self):
        lot = (("p", OPEN),)
        for reason in ODD + (("heard", lot, 0), ("heard", lot, 0, 0, 0), ["heard", lot, 0, 0], ("lot", lot, 0, 0),
                (0, lot, 0, 0),
                             (["heard"], lot, 0, 0), ("Heard", lot, 0, 0), (lot, "heard", 0, 0)):
            refused(self, InvalidOperation, excludes, reason, lot)
        for value in NO_LOTS + ((("q", OPEN),), (("p", OPEN), ("q", OPEN))):
            refused(self, InvalidOperation, excludes, ("heard", lot, 0, 0), value)
            refused(self, InvalidOperation, excludes, ("unheard", value, 0, 0), lot)
        self.assertIs(excludes(("heard", lot, 0, 0), lot), True)


class Wide(unittest.TestCase):
    def test_deep_nets(self):
        prices = {box: {kind: at for at, kind in enumerate(KINDS)} for box in ("inner", "outer")}
        for wishes, bans in (((), (("c", "a"),)), ((("a", "d"),), (("d", "a"),)), ((("a", "b"),), ())):
            found = choice_paper(DEEP, prices, wishes, bans)
            self.assertIs(is_choice_paper(DEEP, prices, wishes, bans, found), True)

    def test_a_net_without_what_is_wished(self):
        apart = Net(PAIR.boxes, PAIR.hosts)
        found = choice_paper(apart, FLAT, (("a", "b"),), ())
        self.assertEqual(found[0], "none")
        self.assertIs(is_choice_paper(apart, FLAT, (("a", "b"),), (), found), True)


if __name__ == "__main__":
    unittest.main()
