"""Openings: lots, their nets and frontiers (stage 14, [14.1] to [14.3])."""

import itertools
import random
import unittest

from lentdoors.base.kinds import is_as_loose
from lentdoors.base.nets import Net
from lentdoors.errors import InvalidNet, InvalidOperation, TooMany
from lentdoors.know.hearing import hearing_paper, hears, is_hearing_paper
from lentdoors.know.tables import least_table
from lentdoors.live.talks import Talk, hearers
from lentdoors.wide.openings import MAX_LOTS, decided, frontier, fulfils, is_frontier, lots, net_of
from samples import CITY, DEEP, KINDS, MEET, NEVER, NO_NETS, ODD, OPEN, PAIR, STRICT, TIGHT, helped_net, random_nets
from test_hearing import pairs
from test_sorts import refused
from test_tables import full_table

BOTH = {"left": NEVER, "right": NEVER}
THREE = Net({**PAIR.boxes, "mid": ("open", STRICT)}, {**PAIR.hosts, "c": "mid"}, tellers=PAIR.tellers, known=PAIR.known)
NO_WISHES = tuple([(value,) for value in ODD]) + (
    ("a", "b"), (("a", "a"),), (("a", "z"),), (("left", "a"),), (("a", "b", "help"),), (["a", "b"],),
    (("b", "a"), ("a", "b")), (("a", "b"), ("a", "b")), (("a", "b"), None), ((("a", "b"),),),
)
NO_LOTS = ODD + (
    OPEN, ("left", OPEN), (("left",),), ((("left", OPEN),),), [("left", OPEN)], (["left", OPEN],),
    (("left", list(OPEN)),),
    (("left", OPEN, OPEN),), (("left", OPEN), ("left", STRICT)), (("right", OPEN), ("left", OPEN)), (("Left", OPEN),),
    (("left", OPEN), None), (("left", OPEN), ("right",)), (("left", OPEN), ("right", "y")), (None, ("left", OPEN)),
    (("left", OPEN), ("left", OPEN)), (("left", OPEN[:2]),), ((OPEN, "left"),), (("open", OPEN),),
    tuple([(box, OPEN) for box in ("l", "m", "n", "o")]),
)


def is_looser_lot(lot, other):
    return all([is_as_loose(one[1], two[1]) for one, two in zip(lot, other)])


def all_lots(offer):
    """All lots of an offer, ascending."""
    return sorted([tuple(zip(sorted(offer), choice))
        for choice in itertools.product(*[offer[box] for box in sorted(offer)])])


def does(net, lot, wishes):
    for box, kind in lot:
        net = net.with_kind(box, kind)
    return all([hears(net, *wish) for wish in wishes])


def some_offer(chance, net, many=3, size=4):
    """An offer for some boxes of the net, with its keys in some order."""
    boxes = chance.sample(sorted(net.boxes), chance.randint(1, min(many, len(net.boxes))))
    return {box: tuple(sorted(chance.sample(KINDS, chance.randint(1, size)))) for box in boxes}


def some_wishes(chance, net, many=3):
    return tuple(sorted(chance.sample(pairs(net), chance.randint(0, min(many, len(pairs(net)))))))


class Fulfils(unittest.TestCase):
    def test_against_hears(self):
        chance, found = random.Random(1), set()
        for net in random_nets(301, 80):
            for _ in range(4):
                wishes = some_wishes(chance, net)
                expected = all([hears(net, *wish) for wish in wishes])
                self.assertIs(fulfils(net, *wishes), expected)
                found.add((len(wishes), expected))
        self.assertEqual(found, {(0, True), *itertools.product((1, 2, 3), (True, False))})

    def test_examples(self):
        self.assertEqual([fulfils(PAIR, *pairs(PAIR)), fulfils(TIGHT, *pairs(TIGHT)), fulfils(TIGHT)],
            [True, False, True])
        self.assertIs(fulfils(TIGHT, ("a", "help"), ("help", "a")), True)

    def test_errors_in_their_order(self):
        for value in NO_NETS:
            refused(self, InvalidNet, fulfils, value, None)
        for wishes in NO_WISHES:
            refused(self, InvalidOperation, fulfils, PAIR, *wishes)


class Lots(unittest.TestCase):
    def test_all_lots(self):
        chance, sizes = random.Random(2), set()
        for net in random_nets(303, 40, boxes=3):
            offer = some_offer(chance, net)
            found = list(lots(net, offer))
            self.assertEqual(found, all_lots(offer))
            self.assertEqual(found, sorted(found))
            self.assertEqual(len(set(found)), len(found))
            turned = dict(reversed(list(offer.items())))
            self.assertEqual(list(lots(net, turned)), found)
            sizes.add(len(offer))
            for lot in found:
                expected = net
                for box, kind in lot:
                    expected = expected.with_kind(box, kind)
                self.assertEqual(net_of(net, lot), expected)
        self.assertEqual(sizes, {1, 2, 3})

    def test_one_lot(self):
        self.assertEqual(list(lots(PAIR, {"left": (OPEN,)})), [(("left", OPEN),)])
        self.assertEqual(list(lots(PAIR, {"left": (STRICT, OPEN)[:1]})), [(("left", STRICT),)])

    def test_many_lots(self):
        self.assertEqual(MAX_LOTS, 729)
        self.assertEqual(len(list(lots(PAIR, {"left": KINDS, "right": KINDS}))), 729)
        self.assertEqual(len(list(lots(THREE, {"left": NEVER, "right": NEVER, "mid": NEVER}))), 729)
        for offer in ({"left": KINDS, "right": KINDS, "mid": KINDS[:2]},
                {"left": NEVER, "right": NEVER, "mid": KINDS[:10]},
                      {"left": KINDS, "right": KINDS, "mid": KINDS}):
            found = lots(THREE, offer)
            with self.assertRaises(TooMany) as caught:
                list(found)
            self.assertEqual(caught.exception.limit, 729)
            for wishes in ((), (("a", "b"),)):
                refused(self, TooMany, frontier, THREE, offer, *wishes)
                refused(self, TooMany, is_frontier, THREE, offer, None, *wishes)
            refused(self, InvalidOperation, frontier, THREE, offer, ("a", "a"))
            refused(self, InvalidOperation, is_frontier, THREE, offer, None, ("a", "a"))

    def test_lots_of_any_offer(self):
        self.assertEqual(net_of(PAIR, (("right", STRICT),)), PAIR.with_kind("right", STRICT))
        self.assertEqual(net_of(PAIR, (("left", STRICT), ("right", STRICT))), TIGHT)
        self.assertEqual(net_of(PAIR, (("left", OPEN),)), PAIR)

    def test_no_offers(self):
        for offer in ODD + (
            {}, {"left": ()}, {"left": list(NEVER)}, {"left": NEVER[::-1]}, {"left": (OPEN, OPEN)}, {"z": NEVER},
            {"open": NEVER}, {"a": NEVER}, {"left": OPEN}, {"left": (OPEN, "source")}, {**BOTH, "z": NEVER}, {0: NEVER},
            {"left": NEVER, "right": None}, (("left", NEVER),), [("left", NEVER)], {("left",): NEVER},
            {"left": {OPEN: 1}},
        ):
            found = lots(PAIR, offer)
            refused(self, InvalidOperation, lambda: list(found))
            refused(self, InvalidOperation, frontier, PAIR, offer)
            refused(self, InvalidOperation, frontier, PAIR, offer, ("a", "a"))
            refused(self, InvalidOperation, is_frontier, PAIR, offer, None, ("a", "b"))
        refused(self, InvalidOperation, lambda: list(lots(DEEP, {box: (OPEN,) for box in DEEP.boxes})))
        self.assertEqual(len(list(lots(DEEP, {box: (OPEN,) for box in ("inner", "mid", "side")}))), 1)

    def test_no_lots(self):
        for lot in NO_LOTS + ((("z", OPEN),), (("a", OPEN),), (("left", OPEN), ("z", OPEN))):
            refused(self, InvalidOperation, net_of, PAIR, lot)
        boxes = [(box, OPEN) for box in sorted(DEEP.boxes)]
        refused(self, InvalidOperation, net_of, DEEP, tuple(boxes))
        self.assertEqual(net_of(DEEP, tuple(boxes[:3])).kind_of("inner"), OPEN)

    def test_no_net(self):
        for value in NO_NETS:
            for call in (lambda net: list(lots(net, None)), lambda net: net_of(net, None),
                    lambda net: frontier(net, None),
                         lambda net: is_frontier(net, None, None)):
                refused(self, InvalidNet, call, value)


class Frontiers(unittest.TestCase):
    def check(self, net, offer, wishes):
        found = frontier(net, offer, *wishes)
        all_of_them = all_lots(offer)
        good = [lot for lot in all_of_them if does(net, lot, wishes)]
        bad = [lot for lot in all_of_them if lot not in good]
        strictest = [lot for lot in good if not any([is_looser_lot(lot, one) and one != lot for one in good])]
        loosest = [lot for lot in bad if not any([is_looser_lot(one, lot) and one != lot for one in bad])]
        self.assertEqual([lot for lot, _ in found[0]], strictest)
        self.assertEqual([lot for lot, _, _ in found[1]], loosest)
        for lot, talks in found[0]:
            self.assertEqual(len(talks), len(wishes))
            for wish, talk in zip(wishes, talks):
                self.assertIs(is_hearing_paper(net_of(net, lot), *wish, ("talk", talk)), True)
        for lot, wish, table in found[1]:
            self.assertIn(wish, wishes)
            self.assertIs(is_hearing_paper(net_of(net, lot), *wish, ("table", table)), True)
        for lot in all_of_them:
            self.assertIs(decided(found, lot), lot in good)
            below = [one for one in strictest if is_looser_lot(lot, one)]
            above = [one for one in loosest if is_looser_lot(one, lot)]
            self.assertNotEqual(below == [], above == [])
        self.check_talks_of_looser_lots(net, found, good)
        turned = dict(reversed(list(offer.items())))
        self.assertEqual(frontier(net, turned, *wishes), found)
        self.assertIs(is_frontier(net, turned, found, *wishes), True)
        return found

    def check_talks_of_looser_lots(self, net, found, good):
        for lot, talks in found[0]:
            for talk in talks:
                heard = hearers(net_of(net, lot), talk)
                for other in [one for one in good if is_looser_lot(one, lot)][:6]:
                    again = hearers(net_of(net, other), talk)
                    self.assertEqual([one for at, one in enumerate(again) if heard[at] is not None],
                                     [one for one in heard if one is not None])

    def test_nets_of_each_form(self):
        chance, sizes = random.Random(4), set()
        drawn = random_nets(305, 20, boxes=3, hosts=3) + [helped_net(chance) for _ in range(40)]
        for net in drawn + 6 * [PAIR, CITY, THREE]:
            found = self.check(net, some_offer(chance, net), some_wishes(chance, net, 2))
            sizes.add((len(found[0]) > 0, len(found[1]) > 0))
        self.assertEqual(sizes, {(True, True), (True, False), (False, True)})

    def test_two_boxes_without_turning(self):
        found = self.check(PAIR, BOTH, (("a", "b"),))
        self.assertGreater(len(found[0]), 1)
        self.check(PAIR, BOTH, (("a", "b"), ("b", "a")))
        self.check(CITY, BOTH, (("a", "b"), ("a", "c")))

    def test_turning(self):
        net = Net({"p": ("open", STRICT)}, {"a": "p", "b": "p", "e": "open"}, tellers=("e",),
            known=(("a", "e"), ("b", "e")))
        found = self.check(net, {"p": KINDS}, (("a", "b"),))
        self.assertLessEqual({"lent", "inner"}, {lot[0][1][2] for lot, _ in found[0]})

    def test_no_wishes(self):
        found = self.check(PAIR, BOTH, ())
        self.assertEqual(found, ((((("left", STRICT), ("right", STRICT)), ()),), ()))

    def test_all_or_none(self):
        self.assertEqual([len(part) for part in self.check(PAIR, BOTH, (("help", "a"),))], [1, 0])
        apart = Net(PAIR.boxes, PAIR.hosts)
        self.assertEqual([len(part) for part in self.check(apart, BOTH, (("help", "a"),))], [0, 1])

    def test_new_values(self):
        found = frontier(TIGHT, {"right": NEVER}, ("a", "b"))
        found[1][0][2].clear()
        self.assertEqual(len(frontier(TIGHT, {"right": NEVER}, ("a", "b"))[1][0][2]), 3)


class Judged(unittest.TestCase):
    WISHES = (("a", "b"), ("b", "a"))

    def judged(self, value, expected, net=PAIR, offer=BOTH, wishes=WISHES):
        self.assertIs(is_frontier(net, offer, value, *wishes), expected)

    def test_papers_of_others(self):
        strictest, loosest = frontier(PAIR, BOTH, *self.WISHES)
        longer = tuple([(lot, tuple([talk + talk for talk in talks])) for lot, talks in strictest])
        self.judged((longer, loosest), True)
        other = []
        for lot, _, table in loosest:
            net = net_of(PAIR, lot)
            wish = [one for one in self.WISHES if not hears(net, *one)][-1]
            other.append((lot, wish, dict(reversed(list(least_table(net.with_teller("a")).items())))))
        barred = [is_hearing_paper(net_of(PAIR, lot), *wish, ("table", table)) for lot, wish, table in other]
        self.assertIn(True, barred)
        self.judged((strictest, tuple(other)), all(barred))
        mixed = tuple([row if good else loosest[at] for at, (row, good) in enumerate(zip(other, barred))])
        self.judged((longer, mixed), True)
        self.assertNotEqual((longer, mixed), (strictest, loosest))

    def test_rows_left_out_doubled_and_moved(self):
        found = frontier(PAIR, BOTH, *self.WISHES)
        for side in (0, 1):
            rows = found[side]
            changed = [rows[1:], rows[:-1], rows[:1] + rows, rows + rows[-1:], rows[::-1],
                (rows[1], rows[0]) + rows[2:], (),
                       list(rows), rows + (None,), dict(enumerate(rows)), None]
            for one in changed:
                self.judged((one, found[1]) if side == 0 else (found[0], one), False)

    def test_other_lots(self):
        strictest, loosest = frontier(PAIR, BOTH, *self.WISHES)
        done = [lot for lot in lots(PAIR, BOTH) if does(PAIR, lot, self.WISHES)]
        for lot in lots(PAIR, BOTH):
            if lot in done and lot not in [one for one, _ in strictest]:
                row = (lot, tuple([hearing_paper(net_of(PAIR, lot), *wish)[1] for wish in self.WISHES]))
                for at in range(len(strictest)):
                    self.judged((tuple(sorted([*strictest[:at], row, *strictest[at + 1:]], key=lambda one: one[0])),
                        loosest),
                                False)
                self.judged((tuple(sorted([*strictest, row], key=lambda one: one[0])), loosest), False)
            if lot not in done and lot not in [one for one, _, _ in loosest]:
                wish = [one for one in self.WISHES if not hears(net_of(PAIR, lot), *one)][0]
                row = (lot, wish, least_table(net_of(PAIR, lot)))
                self.judged((strictest, tuple(sorted([*loosest, row], key=lambda one: one[0]))), False)
                self.judged((strictest, tuple(sorted([row, *loosest[1:]], key=lambda one: one[0]))), False)

    def changed(self, side, row):
        """The frontier with another first row on one side."""
        found = list(frontier(PAIR, BOTH, *self.WISHES))
        found[side] = (row,) + found[side][1:]
        return tuple(found)

    def test_other_talks(self):
        lot, talks = frontier(PAIR, BOTH, *self.WISHES)[0][0]
        for wrong in (
            (), talks[:1], talks[::-1], talks + talks[:1], list(talks), None, (talks[0], None), (talks[0], Talk()),
            talks[0],
            (talks[0], talks[1] + Talk(("help", ("own", "help")))), (talks[0], Talk(("a", ("own", "help")))),
            (talks[0].messages(), talks[1]), (Talk(("b", ("own", "a"))), talks[1]), {0: talks[0], 1: talks[1]},
        ):
            self.judged(self.changed(0, (lot, wrong)), False)
        for row in ((lot,), (lot, talks, ()), [lot, talks], None, (lot[::-1], talks), (list(lot), talks),
                (lot[:1], talks)):
            self.judged(self.changed(0, row), False)
        self.judged(self.changed(0, (lot, talks)), True)

    def test_other_tables(self):
        lot, wish, table = frontier(PAIR, BOTH, *self.WISHES)[1][0]
        for wrong in (
            None, {}, {**table, "a": ()}, {**table, "a": list(table["a"])}, {**table, "z": ()},
            full_table(net_of(PAIR, lot)),
            MEET, least_table(PAIR), tuple(table.items()), {**table, "a": table["a"][::-1]},
        ):
            self.judged(self.changed(1, (lot, wish, wrong)), False)
        heard = [one for one in pairs(PAIR) if hears(net_of(PAIR, lot), *one)]
        unheard = [one for one in pairs(PAIR) if one not in heard]
        for wrong in (*heard, None, wish[::-1] if wish[::-1] in heard else None, wish + wish, list(wish), "a",
                ("a", "z"), ()):
            self.judged(self.changed(1, (lot, wrong, table)), False)
        for wrong in ((lot, wish), (lot, wish, table, ()), [lot, wish, table], (lot, table, wish),
                (lot[::-1], wish, table)):
            self.judged(self.changed(1, wrong), False)
        for one in unheard:
            self.judged(self.changed(1, (lot, one, table)), one in self.WISHES)

    def test_pairs_that_are_no_wish(self):
        # a cannot hear b here either, but only the other way round is wished.
        found = frontier(PAIR, BOTH, ("a", "b"))
        lot, wish, table = found[1][0]
        self.assertIs(is_hearing_paper(net_of(PAIR, lot), "b", "a", ("table", table)), True)
        self.judged(found, True, wishes=(("a", "b"),))
        self.judged((found[0], ((lot, ("b", "a"), table),) + found[1][1:]), False, wishes=(("a", "b"),))

    def test_another_offer_or_net(self):
        found = frontier(PAIR, BOTH, *self.WISHES)
        self.judged(found, False, wishes=(("a", "b"),))
        self.judged(found, False, wishes=())
        self.judged(found, False, offer={"left": NEVER})
        self.judged(found, False, offer={"left": NEVER, "right": KINDS})
        self.judged(found, False, offer={"left": NEVER, "right": NEVER[1:]})
        # The kinds that boxes of an offer have in the net do not matter.
        self.judged(found, True, net=TIGHT)

    def test_every_value(self):
        found = frontier(PAIR, BOTH, *self.WISHES)
        for value in ODD + ((), found[:1], list(found), found + found, found[::-1], (found, found), ((), ()), "found"):
            self.judged(value, False)
            self.judged((value, found[1]), False)
            self.judged((found[0], value), False)
            self.judged(((value,) + found[0][1:], found[1]), False)
            self.judged((found[0], (value,) + found[1][1:]), False)
            self.judged(self.changed(0, (value, found[0][0][1])), False)
            self.judged(self.changed(1, (value,) + found[1][0][1:]), False)


class Decided(unittest.TestCase):
    def rows(self, *boxes_and_kinds):
        """A frontier of lots of one box, its talks and tables left out."""
        return tuple([tuple([(((box, kind),), *([None] * (side + 1))) for box, kind in boxes_and_kinds[side]])
                      for side in (0, 1)])

    def test_sides(self):
        found = self.rows([("p", ("source", "address", "never"))], [("p", ("address", "any", "never"))])
        for kind in KINDS:
            lot = (("p", kind),)
            above, below = is_as_loose(kind, ("source", "address", "never")), is_as_loose(("address", "any", "never"),
                kind)
            if above == below:
                refused(self, InvalidOperation, decided, found, lot)
            else:
                self.assertIs(decided(found, lot), above)

    def test_both_and_neither(self):
        lot = (("p", OPEN),)
        refused(self, InvalidOperation, decided, self.rows([("p", OPEN)], [("p", OPEN)]), lot)
        refused(self, InvalidOperation, decided, self.rows([("p", STRICT)], [("p", OPEN)]), lot)
        refused(self, InvalidOperation, decided, self.rows([], []), lot)
        self.assertIs(decided(self.rows([("p", STRICT)], []), lot), True)
        self.assertIs(decided(self.rows([], [("p", OPEN)]), (("p", STRICT),)), False)
        refused(self, InvalidOperation, decided, self.rows([], [("p", STRICT)]), lot)
        refused(self, InvalidOperation, decided, self.rows([("p", OPEN)], []), (("p", STRICT),))

    def test_lots_of_other_boxes(self):
        lot, two = (("p", OPEN),), (("p", OPEN), ("q", OPEN))
        refused(self, InvalidOperation, decided, self.rows([("q", STRICT)], []), lot)
        refused(self, InvalidOperation, decided, self.rows([("p", STRICT)], []), two)
        self.assertIs(decided(self.rows([("q", STRICT)], [("p", OPEN)]), lot), False)
        self.assertIs(decided(self.rows([("p", STRICT)], [("q", OPEN)]), lot), True)
        self.assertIs(decided((((two, None),), ((lot, 0, 0),)), (("p", STRICT),)), False)

    def test_no_frontiers_and_no_lots(self):
        lot = (("p", OPEN),)
        good = self.rows([("p", STRICT)], [])
        for value in ODD + ((), good[:1], list(good), good + ((),), ([], ()), ((), []), (((lot,),), ()),
                (((lot, 0, 0),), ()),
                            ((), ((lot, 0),)), ((), ((lot, 0, 0, 0),)), (([lot, 0],), ()), ((lot, 0), ()), ((0,), ())):
            if value != ((), ()):
                refused(self, InvalidOperation, decided, value, lot)
        for value in NO_LOTS:
            refused(self, InvalidOperation, decided, good, value)
            refused(self, InvalidOperation, decided, (((value, 0), (lot, 0)), ()), lot)
            refused(self, InvalidOperation, decided, (((lot, 0),), ((value, 0, 0),)), lot)
        self.assertIs(decided(good, lot), True)


if __name__ == "__main__":
    unittest.main()
