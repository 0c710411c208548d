"""The examples of the document, as it writes them."""

import unittest

from lentdoors.base.kinds import is_as_loose, kinds
from lentdoors.base.nets import Net
from lentdoors.live.boxes import LiveBox
from samples import CITY, OPEN, PAIR, STRICT, TIGHT


class Examples(unittest.TestCase):
    def test_values(self):
        self.assertEqual(OPEN, ("source", "address", "never"))
        self.assertEqual(STRICT, ("door", "door", "never"))
        self.assertEqual(str(PAIR), "net of 3 hosts, 2 boxes")
        self.assertEqual(PAIR.hosts, {"a": "left", "b": "right", "help": "open"})
        self.assertEqual(TIGHT, Net(
            {"left": ("open", STRICT), "right": ("open", STRICT)},
            {"a": "left", "b": "right", "help": "open"},
            tellers=("help",), known=(("a", "help"), ("b", "help")),
        ))
        self.assertEqual(CITY.tellers, ("c", "help"))
        self.assertEqual(CITY.kind_of("right"), ("address", "any", "lent"))

    def test_stage_1(self):
        found = [
            is_as_loose(OPEN, STRICT),
            is_as_loose(("source", "any", "lent"), ("source", "any", "inner")),
            len(list(kinds(least=OPEN))),
        ]
        self.assertEqual(found, [True, False, 6])

    def test_stage_2(self):
        found = [
            CITY.areas_of("b"), CITY.boxes_between("b", "open"), CITY.hosts_in("right"),
            TIGHT.is_within(PAIR), PAIR.is_within(TIGHT),
        ]
        self.assertEqual(found, [('right', 'open'), ('right',), ('b', 'c'), True, False])

    def test_stage_3(self):
        box = LiveBox("left", ("address", "door", "never"), numbers=lambda many: 70 + many)
        found = [
            box.lend(("a", 0), ("x", 5)), box.lend(("a", 0), ("x", 6)), box.lets_in(("left", 70), ("x", 6)),
            len(box), box.inner(("left", 70)),
        ]
        self.assertEqual(found, [('left', 70), ('left', 70), True, 1, ('a', 0)])

    def test_nets_of_later_examples(self):
        frame = PAIR.with_kind("right", ("door", "any", "never"))
        self.assertEqual(frame.kind_of("right"), ("door", "any", "never"))
        bare = Net(PAIR.boxes, {"a": "left", "aid": "open", "b": "right", "help": "open"})
        self.assertEqual([bare.tellers, bare.known, len(bare)], [(), (), 4])
        alone = Net(
            {}, {"a": "open", "b": "open", "help": "open"}, tellers=("help",), known=(("a", "help"), ("b", "help")),
        )
        self.assertEqual(str(alone), "net of 3 hosts, 0 boxes")
        self.assertEqual(len(tuple(kinds(most=("source", "any", "never")))), 9)


if __name__ == "__main__":
    unittest.main()
