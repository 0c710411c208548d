"""The examples of the document, as it writes them."""

import unittest

from lentdoors.base.kinds import is_as_loose, kinds
from lentdoors.base.nets import Net
from lentdoors.chain.chains import (
    CHAIN_KINDS, LOOKS, boxes_for, chain_kind, chain_of, is_as_loose_chain, joined_kinds, lets_in_by,
)
from lentdoors.chain.parting import is_parting, parting
from lentdoors.desk.desk import Desk
from lentdoors.know.hearing import hearing_paper, hears, is_hearing_paper, lines
from lentdoors.know.short import crews, is_short, least_round, shortened
from lentdoors.know.sorts import grade, is_single, own_sort, sorts, source_sort, used_sorts
from lentdoors.know.tables import least_table, read_message, rounds
from lentdoors.live.boxes import LiveBox
from lentdoors.live.nets import LiveNet
from lentdoors.live.talks import Talk, carried, fits, hearers
from lentdoors.texts.reading import read_sort, read_talk
from lentdoors.texts.writing import grid_text, net_text, sort_text, talk_text
from lentdoors.wide.choices import choice_paper, price_of
from lentdoors.wide.helps import bars_of, help_paper, roles
from lentdoors.wide.maps import NetMap, is_map
from lentdoors.wide.openings import frontier
from lentdoors.wide.relations import Hearing
from samples import BARE, CITY, HELPS, MEET, NEVER, OPEN, PAIR, STRICT, TIGHT


class Examples(unittest.TestCase):
    def test_values(self):
        self.assertEqual(OPEN, ("source", "address", "never"))
        self.assertEqual(STRICT, ("door", "door", "never"))
        self.assertEqual(str(PAIR), "net of 3 hosts, 2 boxes")
        self.assertEqual(PAIR.hosts, {"a": "left", "b": "right", "help": "open"})
        self.assertEqual(TIGHT, Net(
            {"left": ("open", STRICT), "right": ("open", STRICT)},
            {"a": "left", "b": "right", "help": "open"},
            tellers=("help",), known=(("a", "help"), ("b", "help")),
        ))
        self.assertEqual(CITY.tellers, ("c", "help"))
        self.assertEqual(CITY.kind_of("right"), ("address", "any", "lent"))

    def test_stage_1(self):
        found = [
            is_as_loose(OPEN, STRICT),
            is_as_loose(("source", "any", "lent"), ("source", "any", "inner")),
            len(list(kinds(least=OPEN))),
        ]
        self.assertEqual(found, [True, False, 6])

    def test_stage_2(self):
        found = [
            CITY.areas_of("b"), CITY.boxes_between("b", "open"), CITY.hosts_in("right"),
            TIGHT.is_within(PAIR), PAIR.is_within(TIGHT),
        ]
        self.assertEqual(found, [('right', 'open'), ('right',), ('b', 'c'), True, False])

    def test_stage_3(self):
        box = LiveBox("left", ("address", "door", "never"), numbers=lambda many: 70 + many)
        found = [
            box.lend(("a", 0), ("x", 5)), box.lend(("a", 0), ("x", 6)), box.lets_in(("left", 70), ("x", 6)),
            len(box), box.inner(("left", 70)),
        ]
        self.assertEqual(found, [('left', 70), ('left', 70), True, 1, ('a', 0)])

    def test_stage_4(self):
        live = LiveNet(PAIR)
        found = [live.send("a", ("help", 0)), live.send("b", ("help", 0)), live.knows("help")]
        self.assertEqual(found, ['help', 'help', (('help', 0), ('left', 1), ('right', 1))])
        found = [live.send("help", ("left", 1)), live.send("a", ("right", 1)), live.knows("b")]
        self.assertEqual(found, ['a', None, (('b', 0), ('help', 0))])
        found = [live.send("help", ("right", 1)), live.send("b", ("left", 1)), live.heard("a")]
        self.assertEqual(found, ['b', 'a', ('b', 'help')])

    def test_stage_5(self):
        found = [
            hearers(PAIR, MEET), fits(PAIR, MEET.without(4)),
            carried(PAIR, MEET, numbers=lambda many: 9 - many).heard("a"),
        ]
        self.assertEqual(found, [('help', 'help', 'a', None, 'b', 'a'), False, ('b', 'help')])

    def test_stage_6(self):
        found = [
            chain_kind((("source", "address", "never"), ("address", "any", "lent"))),
            joined_kinds(("address", "nothing"), ("source", "door")), len(CHAIN_KINDS),
        ]
        self.assertEqual(found, [('address', 'address'), ('address', 'both'), 14])
        far, near = ("x", 5), ("x", 6)
        found = [lets_in_by(("door", look), (far, near), far, near) for look in LOOKS]
        self.assertEqual(found, [True, True, True, True, True, False])
        found = [
            chain_of(CITY, "a", "open"), is_as_loose_chain(("source", "door"), ("address", "key")),
            len(boxes_for(("door", "door"))),
        ]
        self.assertEqual(found, [('source', 'door'), False, 2])

    def test_stage_7(self):
        frame = PAIR.with_kind("right", ("door", "any", "never"))
        found = [
            is_parting(("source", "address"), ("source", "door"), (frame, "left", "a", "b")),
            parting(("door", "key"), ("door", "key")),
        ]
        self.assertEqual(found, [True, None])

    def test_stage_8(self):
        aid = own_sort(TIGHT, "help")
        found = [grade(CITY, "b", "open"), source_sort(CITY, "b", aid), source_sort(TIGHT, "a", aid)]
        self.assertEqual(found, ['address', ('b', 'open', 'help'), ('a', 'open', ('help', 'open', None))])
        found = [
            source_sort(TIGHT, "b", source_sort(TIGHT, "a", aid)), is_single(TIGHT, aid),
            len(list(sorts(PAIR, "a", "open"))),
        ]
        self.assertEqual(found, [('b', 'open', ('left',)), False, 1])
        found = used_sorts(CITY, "right", ("b", "open", "left"), (
            ("a", "open", None), ("b", "right", None), ("help", "open", None),
        ))
        self.assertEqual(found, (('a', 'open', None),))

    def test_stage_9(self):
        found = [len(list(rounds(PAIR))), least_table(TIGHT)["help"], least_table(PAIR)["a"]]
        self.assertEqual(found, [
            3,
            (('a', 'open', ('help', 'open', None)), ('b', 'open', ('help', 'open', None)), ('help', 'open', None)),
            (('a', 'left', None), ('a', 'open', None), ('b', 'open', None), ('help', 'open', None)),
        ])
        found = read_message(PAIR, least_table(PAIR), "b", ("a", "open", None))
        self.assertEqual(found, ('a', ('b', 'open', None)))

    def test_stage_10(self):
        found = [
            hears(PAIR, "a", "b"), hears(TIGHT, "a", "b"), hears(TIGHT, "help", "a"),
            hearing_paper(TIGHT, "a", "b")[0],
        ]
        self.assertEqual(found, [True, False, True, 'table'])
        found = [lines(PAIR, "a", "b"), lines(TIGHT, "a", "help"), is_hearing_paper(PAIR, "a", "b", ("talk", MEET))]
        self.assertEqual(found, [
            ((('a', 'open', None), ('b', 'open', None)),),
            ((('a', 'open', ('help', 'open', None)), ('help', 'open', None)),), True,
        ])

    def test_stage_11(self):
        found = [
            is_short(PAIR, MEET, ("a", "b")), shortened(PAIR, MEET, ("help", "b")), least_round(PAIR, ("a", "b")),
        ]
        self.assertEqual(found, [True, (1,), 3])
        found = [crews(PAIR, ("a", "b")), crews(TIGHT, ("help", "a"))]
        self.assertEqual(found, [(('a', 'b', 'help'),), (('a',),)])

    def test_stage_12(self):
        found = [
            Hearing(TIGHT).pairs(), Hearing(TIGHT).bars("a", "b"), Hearing(TIGHT).relay("a", "b"), len(Hearing(PAIR)),
        ]
        self.assertEqual(found, [
            (('a', 'help'), ('b', 'help'), ('help', 'a'), ('help', 'b')), ('left', 'right'), ('b', 'help', 'a'), 6,
        ])

    def test_stage_13(self):
        way = NetMap.within(TIGHT, PAIR)
        found = [
            hearers(PAIR, way(Talk(("a", ("own", "help"))))), way["a"], str(way * NetMap.within(PAIR, PAIR)),
            is_map(PAIR, TIGHT, (way.hosts, way.boxes)),
        ]
        self.assertEqual(found, [('help',), 'a', 'map of 3 hosts, 2 boxes', False])
        alone = Net(
            {}, {"a": "open", "b": "open", "help": "open"}, tellers=("help",), known=(("a", "help"), ("b", "help")),
        )
        hosts = {"a": "a", "b": "b", "help": "help"}
        way = NetMap(TIGHT, alone, hosts, boxes={"left": None, "right": None})
        self.assertEqual(way.dissolved(), ('left', 'right'))

    def test_stage_14(self):
        self.assertEqual(NEVER, tuple(kinds(most=("source", "any", "never"))))
        found = frontier(TIGHT, {"right": NEVER}, ("a", "b"))
        kinds_found = [[lot[0][1] for lot, talks in found[0]], [lot[0][1] for lot, wish, table in found[1]]]
        self.assertEqual(kinds_found, [
            [('source', 'address', 'never')], [('address', 'any', 'never'), ('source', 'door', 'never')],
        ])
        found = frontier(PAIR, {"left": NEVER, "right": NEVER}, ("a", "b"), ("b", "a"))
        self.assertEqual([len(part) for part in found], [5, 3])

    def test_stage_15(self):
        self.assertEqual([BARE.tellers, BARE.known, BARE.boxes], [(), (), PAIR.boxes])
        self.assertEqual([subset for subset, talks in help_paper(BARE, HELPS, ("a", "b"))[0]], [
            (('known', 'a', 'aid'), ('known', 'b', 'aid'), ('teller', 'aid')),
            (('known', 'a', 'help'), ('known', 'b', 'help'), ('teller', 'help')),
        ])
        found = [len(bars_of(BARE, HELPS, ("a", "b"))), roles(PAIR, HELPS[1:2], ("a", "b"))]
        self.assertEqual(found, [9, {('known', 'a', 'help'): 'idle'}])

    def test_stage_16(self):
        prices = {"left": {("address", "any", "never"): 5, OPEN: 2}, "right": {STRICT: 4, OPEN: 1}}
        found = choice_paper(PAIR, prices, (("a", "b"),), (("b", "a"),))
        self.assertEqual([found[0], found[1], price_of(prices, found[1])], [
            'lot', (('left', ('address', 'any', 'never')), ('right', ('door', 'door', 'never'))), 9,
        ])
        self.assertEqual(choice_paper(PAIR, prices, (("a", "b"),), (("a", "b"),))[0], 'none')

    def test_stage_17(self):
        found = [
            net_text(PAIR).split("\n")[1], talk_text(MEET).split("\n")[2:4],
            read_talk("a to help\nhelp to #0") == Talk(("a", ("own", "help")), ("help", ("shown", 0))),
        ]
        self.assertEqual(found, ['box right in open source address never', ['help to #0', 'a to #1'], True])
        found = [
            sort_text(("b", "open", ("left",))), read_sort("a@open(b@open(left))"),
            grid_text(("a", "b"), (("a", "b"),)).split("\n")[1],
        ]
        self.assertEqual(found, [
            'b@open(*left)', ('a', 'open', ('b', 'open', 'left')), 'a               .        x',
        ])

    def test_stage_18(self):
        desk = Desk()
        found = desk.run_all(
            "new x box left in open source address never; host a in left; host b in open; known a b",
            "send x a to b", "hears x b a", "undo", "heard x b",
        )
        self.assertEqual(found, ('net of 2 hosts, 1 boxes', 'heard by b', 'yes', 'desk with 1 works', 'nobody'))
        found = [desk.run("reach x a b"), desk.run("hears x a b"), desk.script()[1:]]
        self.assertEqual(found, ['heard', 'yes', ('reach x a b',)])


if __name__ == "__main__":
    unittest.main()
