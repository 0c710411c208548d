"""Messages in live nets (stage 4, [0.9] to [0.15], [3.1])."""

import random
import unittest

from lentdoors.base.nets import Net
from lentdoors.errors import InvalidDoor, InvalidNet, InvalidNumber, InvalidOperation, TooMany, UnknownName
from lentdoors.live.boxes import LiveBox
from lentdoors.live.nets import MAX_MESSAGES, LiveNet
from samples import CITY, Chooser, DEEP, KINDS, NO_NETS, ODD, PAIR, STRICT, TIGHT, random_nets

ANY = ("source", "any", "never")
BY_DOOR = ("door", "any", "never")


def row(inner=ANY, mid=ANY, outer=ANY, tellers=(), known=(("a", "x"), ("b", "x"), ("c", "x"))):
    """Three boxes one behind another: a behind all of them, b behind two, c behind one, x and y in the open."""
    boxes = {"inner": ("mid", inner), "mid": ("outer", mid), "outer": ("open", outer)}
    hosts = {"a": "inner", "b": "mid", "c": "outer", "x": "open", "y": "open"}
    return Net(boxes, hosts, tellers=tellers, known=known)


def state(live):
    """All that can be asked of a live net."""
    boxes = [live.box(name) for name in live.net.boxes]
    return (
        live.log(), list(live), len(live), str(live), [live.knows(host) for host in live.net],
        [live.heard(host) for host in live.net], boxes, [list(box) for box in boxes],
        [[(box.inner(door), box.used(door)) for door in box] for box in boxes],
    )


def uses(live, name):
    """Each door that a box has lent, with its inner door and its uses."""
    box = live.box(name)
    return {door[1]: (box.inner(door), box.used(door)) for door in box}


class Making(unittest.TestCase):
    def test_a_new_live_net(self):
        for net in (PAIR, TIGHT, CITY, DEEP, Net({}, {"a": "open"})):
            live = LiveNet(net)
            self.assertEqual([live.log(), len(live), str(live)], [(), 0, "live net with 0 messages"])
            self.assertEqual(live.net, net)
            for host in net:
                known = {(host, 0), *[(other, 0) for one, other in net.known if one == host]}
                self.assertEqual([live.knows(host), live.heard(host)], [tuple(sorted(known)), ()])
            for name in net.boxes:
                self.assertEqual(live.box(name), LiveBox(name, net.kind_of(name)))

    def test_errors(self):
        for value in NO_NETS:
            with self.assertRaises(InvalidNet):
                LiveNet(value)

    def test_constant(self):
        self.assertEqual(MAX_MESSAGES, 6000)

    def test_the_chooser_is_not_asked_yet(self):
        chooser = Chooser()
        LiveNet(PAIR, numbers=chooser)
        self.assertEqual(chooser.asked, [])

    def test_net_is_not_assigned(self):
        with self.assertRaises(AttributeError):
            LiveNet(PAIR).net = TIGHT


class SendingOut(unittest.TestCase):
    """What boxes lend and note for a message that goes out."""

    def test_through_no_box(self):
        live = LiveNet(row(known=(("x", "y"),)))
        self.assertEqual(live.send("x", ("y", 0)), "y")
        self.assertEqual(live.log(), (("x", ("y", 0), 0, "y", ("x", 0)),))
        self.assertEqual([live.knows("y"), live.heard("y"), live.heard("x")], [(("x", 0), ("y", 0)), ("x",), ()])
        self.assertEqual([len(live.box(name)) for name in live.net.boxes], [0, 0, 0])

    def test_within_an_area_behind_boxes(self):
        live = LiveNet(row().with_host("d", "inner").with_known("a", "d"))
        self.assertEqual(live.send("a", ("d", 0)), "d")
        self.assertEqual(live.knows("d"), (("a", 0), ("d", 0)))
        self.assertEqual([len(live.box(name)) for name in live.net.boxes], [0, 0, 0])

    def test_through_one_box(self):
        live = LiveNet(row())
        self.assertEqual(live.send("c", ("x", 0), own=4), "x")
        self.assertEqual(live.log(), (("c", ("x", 0), 4, "x", ("outer", 1)),))
        self.assertEqual(uses(live, "outer"), {1: (("c", 4), (("x", 0),))})
        self.assertEqual([len(live.box("mid")), len(live.box("inner"))], [0, 0])

    def test_through_three_boxes(self):
        live = LiveNet(row(), numbers=Chooser(5, 7, 9))
        self.assertEqual(live.send("a", ("x", 0), own=2), "x")
        self.assertEqual(live.log()[0][4], ("outer", 9))
        self.assertEqual(uses(live, "inner"), {5: (("a", 2), (("x", 0),))})
        self.assertEqual(uses(live, "mid"), {7: (("inner", 5), (("x", 0),))})
        self.assertEqual(uses(live, "outer"), {9: (("mid", 7), (("x", 0),))})

    def test_up_to_the_area_of_the_target(self):
        live = LiveNet(row(known=(("a", "b"), ("a", "c"))))
        self.assertEqual([live.send("a", ("b", 0)), live.send("a", ("c", 0))], ["b", "c"])
        self.assertEqual([live.log()[0][4], live.log()[1][4]], [("inner", 1), ("mid", 1)])
        self.assertEqual([len(live.box(name)) for name in ("inner", "mid", "outer")], [1, 1, 0])

    def test_each_lending(self):
        known = (("c", "x"), ("c", "y"))
        messages = [(("x", 0), 0), (("y", 0), 0), (("x", 0), 1), (("y", 0), 1), (("x", 0), 0), (("x", 3), 0)]
        for lending, numbers in (
            ("source", [1, 1, 2, 2, 1, 1]), ("address", [1, 2, 3, 4, 1, 1]), ("door", [1, 2, 3, 4, 1, 5]),
        ):
            live = LiveNet(row(outer=(lending, "any", "never"), known=known))
            live.send("x", ("x", 0), own=3)
            live.send("c", ("x", 0))
            live.send("x", live.log()[-1][4], own=3)
            for door, own in messages:
                self.assertEqual(live.send("c", door, own=own), door[0])
            self.assertEqual([entry[4][1] for entry in live.log()[3:]], numbers, lending)

    def test_a_chain_lends_by_its_last_lending(self):
        for kinds, many in (
            ((ANY, ANY, ANY), 1), ((ANY, BY_DOOR, ANY), 3), ((BY_DOOR, ANY, ANY), 3), ((ANY, ANY, BY_DOOR), 3),
            ((ANY, ("address", "any", "never"), ANY), 2), ((("address", "any", "never"), ANY, BY_DOOR), 3),
        ):
            live = LiveNet(row(*kinds, known=(("a", "x"), ("a", "y"))))
            live.send("x", ("x", 0), own=3)
            live.send("a", ("x", 0))
            live.send("x", live.log()[-1][4], own=3)
            for door in (("x", 3), ("y", 0), ("x", 0), ("y", 0)):
                live.send("a", door)
            self.assertEqual(len(live.box("outer")), many, kinds)

    def test_uses_are_noted_for_each_target(self):
        live = LiveNet(row(known=(("c", "x"), ("c", "y"))))
        live.send("c", ("y", 0))
        live.send("c", ("x", 0))
        self.assertEqual(uses(live, "outer"), {1: (("c", 0), (("x", 0), ("y", 0)))})

    def test_to_a_lent_door(self):
        live = LiveNet(row(known=(("a", "x"), ("c", "x")), outer=("door", "any", "lent")))
        live.send("a", ("x", 0))
        live.send("c", ("x", 0))
        self.assertEqual(live.send("x", ("outer", 1)), "a")
        self.assertEqual(live.send("x", ("outer", 2)), "c")
        self.assertEqual(live.log()[-1], ("x", ("outer", 2), 0, "c", ("x", 0)))

    def test_own_doors_of_all_numbers(self):
        live = LiveNet(row())
        for own in range(10):
            self.assertEqual(live.send("c", ("x", 0), own=own), "x")
        self.assertEqual([entry[2] for entry in live.log()], list(range(10)))
        self.assertEqual([entry[4] for entry in live.log()], [("outer", number) for number in range(1, 11)])
        self.assertEqual([live.send("x", ("outer", 10)), live.box("outer").inner(("outer", 10))], ["c", ("c", 9)])


class LettingIn(unittest.TestCase):
    """The host h behind the box left has sent messages to x; x and y send to the door that was lent."""

    def found(self, lending, letting):
        boxes = {"left": ("open", (lending, letting, "never"))}
        known = (("h", "x"), ("h", "y"), ("x", "y"), ("y", "x"))
        live = LiveNet(Net(boxes, {"h": "left", "x": "open", "y": "open"}, tellers=("x",), known=known))
        live.send("h", ("x", 0))
        live.send("x", ("y", 0))
        found = [live.send("x", ("left", 1)), live.send("x", ("left", 1), own=6), live.send("y", ("left", 1))]
        live.send("h", ("y", 0))
        return found + [live.send("y", ("left", 1)), live.send("y", ("left", 1), own=6)]

    def test_each_kind(self):
        h = "h"
        for lending, letting, expected in (
            ("source", "any", [h, h, h, h, h]), ("address", "any", [h, h, h, h, h]), ("door", "any", [h, h, h, h, h]),
            ("source", "address", [h, h, None, h, h]), ("address", "address", [h, h, None, None, None]),
            ("door", "address", [h, h, None, None, None]), ("source", "door", [h, None, None, h, None]),
            ("address", "door", [h, None, None, None, None]), ("door", "door", [h, None, None, None, None]),
        ):
            self.assertEqual(self.found(lending, letting), expected, (lending, letting))

    def test_what_was_lost_was_sent_all_the_same(self):
        live = LiveNet(TIGHT)
        for host, door in (("a", ("help", 0)), ("b", ("help", 0)), ("help", ("left", 1))):
            live.send(host, door)
        before = [live.knows(host) for host in live.net]
        self.assertIsNone(live.send("a", ("right", 1), own=3))
        self.assertEqual(live.log()[-1], ("a", ("right", 1), 3, None, None))
        self.assertEqual([len(live), live.heard("b")], [4, ()])
        self.assertEqual(uses(live, "left"), {1: (("a", 0), (("help", 0),)), 2: (("a", 3), (("right", 1),))})
        after = [live.knows(host) for host in live.net]
        self.assertEqual(after, [tuple(sorted([*before[0], ("a", 3)])), *before[1:]])

    def test_lost_at_each_box_on_the_way_in(self):
        for at in range(-1, 3):
            # The speaker stands behind a box of its own, which notes what is lost, too.
            kinds = [STRICT if at == place else ANY for place in range(3)]
            net = row(*kinds, tellers=("x",)).with_box("side", "open", ANY).with_host("s", "side").with_known("s", "x")
            live = LiveNet(net)
            for host, door in (("a", ("x", 0)), ("s", ("x", 0)), ("x", ("side", 1))):
                live.send(host, door)
            self.assertEqual(live.send("s", ("outer", 1)), "a" if at == -1 else None)
            self.assertEqual(uses(live, "side"), {1: (("s", 0), (("outer", 1), ("x", 0)))})
            self.assertEqual(("side", 1) in live.knows("a"), at == -1)

    def test_each_box_looks_at_its_own_door(self):
        # a and b have used different doors; the outer box has lent the same way for both.
        net = row(("source", "door", "never"), ("source", "any", "never"), ("source", "address", "never"))
        live = LiveNet(net.with_teller("x").with_known("b", "y").with_known("y", "x"))
        for host, door in (("a", ("x", 0)), ("b", ("y", 0)), ("y", ("x", 0)), ("x", ("y", 0))):
            live.send(host, door)
        self.assertEqual(live.knows("y"), (("outer", 1), ("outer", 2), ("x", 0), ("y", 0)))
        self.assertEqual([live.send("x", ("outer", 1)), live.send("x", ("outer", 1), own=1)], ["a", None])
        self.assertEqual([live.send("y", ("outer", 1)), live.send("y", ("outer", 2), own=7)], [None, "b"])


class Turning(unittest.TestCase):
    """h and i stand behind the box in, j behind the box out, both within the box top; help tells of all."""

    def live(self, top=ANY, one=ANY, two=ANY):
        boxes = {"top": ("open", top), "in": ("top", one), "out": ("top", two)}
        hosts = {"h": "in", "i": "in", "j": "out", "k": "top", "help": "open"}
        known = tuple([(host, "help") for host in "hijk"])
        live = LiveNet(Net(boxes, hosts, tellers=("help",), known=known))
        for host in "hijk":
            live.send(host, ("help", 0))
        for number in range(1, 5):
            live.send("help", ("top", number))
        return live

    def lent(self, live, host):
        """The door that top has lent for this host."""
        return live.log()["hijk".index(host)][4]

    def test_never(self):
        live = self.live()
        for host in "hijk":
            for other in "hijk":
                self.assertIsNone(live.send(host, self.lent(live, other)))
        self.assertEqual(len(live.box("top")), 4)
        self.assertEqual(live.box("top").used(("top", 1))[-1], ("top", 4))

    def test_with_the_lent_source(self):
        for letting, expected in (("any", "j"), ("address", None), ("door", None)):
            live = self.live(top=("source", letting, "lent"))
            target, source = self.lent(live, "j"), self.lent(live, "h")
            self.assertEqual(live.send("h", target), expected)
            # Looked at like any other message: the other one has to use the address, or the door.
            live.send("j", source)
            self.assertEqual(live.send("h", target), "j")
            self.assertEqual(live.log()[-1], ("h", target, 0, "j", source))
            self.assertIn(source, live.knows("j"))
            self.assertEqual(live.send("h", target, own=3), None if letting == "door" else "j")

    def test_with_the_inner_source(self):
        for letting in ("any", "address", "door"):
            live = self.live(top=("source", letting, "inner"))
            target = self.lent(live, "j")
            self.assertEqual(live.send("h", target), "j")
            inner = live.box("top").inner(self.lent(live, "h"))
            self.assertEqual(live.log()[-1], ("h", target, 0, "j", inner))
            self.assertEqual(inner[0], "in")
            self.assertNotIn(self.lent(live, "h"), [entry[4] for entry in live.log()[8:]])

    def test_boxes_further_in_look_as_usual(self):
        for turning in ("lent", "inner"):
            for letting in ("any", "address", "door"):
                live = self.live(top=("source", "any", turning), two=("source", letting, "never"))
                target = self.lent(live, "j")
                expected = "j" if letting == "any" else None
                self.assertEqual(live.send("h", target), expected)
                # j uses what h shows to it: the door of top, or the one of the box in, which k tells of.
                source = self.lent(live, "h")
                if turning == "inner":
                    source = live.box("top").inner(source)
                    self.assertEqual(live.send("h", self.lent(live, "k")), "k")
                    live = self.with_told(live, source)
                live.send("j", source)
                self.assertEqual(live.send("h", target), "j")
                self.assertEqual(live.log()[-1][4], source)

    def with_told(self, live, door):
        """A live net like this one in which k, a teller, has told j of a door of its area."""
        net = live.net.with_teller("k").with_known("j", "k")
        again = LiveNet(net)
        for host, target, own, _, _ in live:
            again.send(host, target, own=own)
        again.send("j", ("k", 0))
        self.assertEqual(again.send("k", again.log()[-1][4]), "j")
        self.assertIn(door, again.knows("j"))
        return again

    def test_at_the_innermost_box(self):
        for turning, source in (("never", None), ("lent", ("in", 1)), ("inner", ("h", 0))):
            net = self.live(one=("source", "any", turning)).net.with_known("h", "k").with_known("i", "k")
            live = LiveNet(net.with_teller("k"))
            for host, door in (("h", ("k", 0)), ("i", ("k", 0)), ("k", ("in", 1)), ("k", ("in", 2))):
                live.send(host, door)
            self.assertEqual(live.send("h", ("in", 2)), None if source is None else "i")
            self.assertEqual(live.log()[-1][4], source)
            self.assertEqual(live.box("in").used(("in", 1)), (("in", 2), ("k", 0)))

    def test_only_the_last_box_turns(self):
        # A message from h to i, by the door of top, goes out through in and top and comes in through both.
        live = self.live(top=("source", "any", "lent"), one=("source", "any", "never"))
        self.assertEqual(live.send("h", self.lent(live, "i")), "i")
        live = self.live(top=("source", "any", "inner"), one=("source", "any", "never"))
        self.assertEqual(live.send("h", self.lent(live, "i")), "i")
        self.assertEqual(live.log()[-1][4][0], "in")
        live = self.live(top=("source", "any", "inner"), one=("source", "door", "inner"))
        self.assertIsNone(live.send("h", self.lent(live, "i")))

    def test_another_box_of_the_way_does_not_turn(self):
        live = self.live(top=("source", "any", "lent"), one=("source", "any", "inner"))
        self.assertEqual(live.send("h", self.lent(live, "j")), "j")
        self.assertEqual(live.log()[-1][4], self.lent(live, "h"))

    def test_a_message_to_oneself(self):
        for turning, source in (("never", None), ("lent", ("top", 4)), ("inner", ("k", 0))):
            live = self.live(top=("source", "any", turning))
            self.assertEqual(live.send("k", ("top", 4)), None if source is None else "k")
            self.assertEqual(live.log()[-1][4], source)
            self.assertEqual("k" in live.heard("k"), source is not None)
        live = LiveNet(PAIR)
        self.assertEqual([live.send("a", ("a", 0), own=2), live.heard("a")], ["a", ("a",)])
        self.assertEqual(live.knows("a"), (("a", 0), ("a", 2), ("help", 0)))


class Learning(unittest.TestCase):
    def test_the_source_alone(self):
        live = LiveNet(row())
        live.send("a", ("x", 0))
        live.send("c", ("x", 0))
        self.assertEqual(live.knows("x"), (("outer", 1), ("outer", 2), ("x", 0)))
        live.send("x", ("outer", 1))
        self.assertEqual(live.knows("a"), (("a", 0), ("x", 0)))

    def test_a_sender_does_not_know_what_was_lent_to_it(self):
        live = LiveNet(row())
        live.send("a", ("x", 0))
        self.assertEqual(live.knows("a"), (("a", 0), ("x", 0)))
        with self.assertRaises(InvalidOperation):
            live.send("c", ("outer", 1))

    def test_all_that_a_teller_knows_wherever_it_lies(self):
        live = LiveNet(row(tellers=("c", "x"), known=(("a", "c"), ("c", "x"), ("x", "y"))))
        live.send("a", ("c", 0))
        live.send("c", ("x", 0))
        self.assertEqual(live.knows("x"), (("c", 0), ("mid", 1), ("outer", 1), ("x", 0), ("y", 0)))
        live.send("x", ("y", 0))
        self.assertEqual(live.knows("y"), (("c", 0), ("mid", 1), ("outer", 1), ("x", 0), ("y", 0)))
        for door in (("mid", 1), ("c", 0)):
            with self.assertRaises(InvalidOperation):
                live.send("x", door)

    def test_a_teller_tells_only_those_who_hear_it(self):
        live = LiveNet(TIGHT.with_teller("a"))
        live.send("a", ("help", 0))
        live.send("b", ("help", 0))
        live.send("help", ("left", 1))
        before = live.knows("b")
        self.assertIsNone(live.send("a", ("right", 1)))
        self.assertEqual(live.knows("b"), before)

    def test_what_a_teller_learns_later_is_not_told(self):
        live = LiveNet(PAIR)
        live.send("a", ("help", 0))
        live.send("help", ("left", 1))
        live.send("b", ("help", 0))
        self.assertEqual(live.knows("a"), (("a", 0), ("help", 0), ("left", 1)))

    def test_own_doors_of_other_numbers(self):
        live = LiveNet(row(tellers=("x",), known=(("c", "x"), ("x", "y"))))
        live.send("x", ("y", 0), own=3)
        self.assertEqual(live.knows("x"), (("x", 0), ("x", 3), ("y", 0)))
        # It is told by the very message that uses it.
        self.assertEqual(live.knows("y"), (("x", 0), ("x", 3), ("y", 0)))
        self.assertEqual(live.send("x", ("x", 3)), "x")
        live = LiveNet(TIGHT.with_teller("a"))
        live.send("a", ("help", 0), own=9)
        self.assertEqual(live.knows("help"), (("a", 0), ("a", 9), ("help", 0), ("left", 1)))

    def test_known_also_if_the_message_is_lost(self):
        live = LiveNet(PAIR.with_kind("left", ("source", "any", "never")))
        live.send("a", ("help", 0))
        live.send("help", ("left", 1))
        self.assertIsNone(live.send("a", ("left", 1), own=5))
        self.assertEqual(live.knows("a"), (("a", 0), ("a", 5), ("help", 0), ("left", 1)))

    def test_not_ahead_of_its_use(self):
        live = LiveNet(PAIR)
        for own in (0, 4):
            with self.assertRaises(InvalidOperation):
                live.send("a", ("a", 4), own=own)
        live.send("a", ("help", 0), own=4)
        self.assertEqual(live.send("a", ("a", 4)), "a")


class Told(unittest.TestCase):
    def setUp(self):
        self.live = LiveNet(PAIR, numbers=lambda many: 50 - many)
        for host, door, own in (("a", ("help", 0), 0), ("b", ("help", 0), 1), ("a", ("help", 0), 0)):
            self.live.send(host, door, own=own)
        self.live.send("help", ("left", 50))
        self.live.send("a", ("right", 50))

    def test_log_and_iteration(self):
        log = (
            ("a", ("help", 0), 0, "help", ("left", 50)), ("b", ("help", 0), 1, "help", ("right", 50)),
            ("a", ("help", 0), 0, "help", ("left", 50)), ("help", ("left", 50), 0, "a", ("help", 0)),
            ("a", ("right", 50), 0, None, None),
        )
        self.assertEqual(self.live.log(), log)
        self.assertEqual([tuple(self.live), [entry for entry in self.live]], [log, list(log)])
        self.assertEqual([len(self.live), str(self.live)], [5, "live net with 5 messages"])

    def test_heard_and_knows(self):
        self.assertEqual([self.live.heard(host) for host in PAIR], [("help",), (), ("a", "b")])
        self.assertEqual(self.live.knows("a"), (("a", 0), ("help", 0), ("left", 50), ("right", 50)))
        self.assertEqual(self.live.knows("b"), (("b", 0), ("b", 1), ("help", 0)))
        self.assertEqual(self.live.knows("help"), (("help", 0), ("left", 50), ("right", 50)))

    def test_unknown_names(self):
        for call in (self.live.knows, self.live.heard, self.live.box):
            for value in ODD + ("open", "z"):
                with self.assertRaises(UnknownName) as caught:
                    call(value)
                self.assertIs(caught.exception.name, value)
        for name in ("left", "right"):
            for call in (self.live.knows, self.live.heard):
                with self.assertRaises(UnknownName):
                    call(name)
        for name in PAIR:
            with self.assertRaises(UnknownName):
                self.live.box(name)

    def test_a_copy_of_a_box(self):
        before = state(self.live)
        box = self.live.box("left")
        self.assertEqual([box.doors(), box.used(("left", 50))], [(("left", 50),), (("help", 0), ("right", 50))])
        self.assertEqual(box.lend(("a", 7), ("help", 0)), ("left", 49))
        self.assertEqual(box.lend(("a", 0), ("help", 8)), ("left", 50))
        self.assertEqual(len(box), 2)
        self.assertEqual(state(self.live), before)
        self.live.send("a", ("help", 0), own=3)
        self.assertEqual([box.inner(("left", 49)), self.live.box("left").inner(("left", 49))], [("a", 7), ("a", 3)])

    def test_a_box_of_each_kind(self):
        for kind in KINDS:
            live = LiveNet(PAIR.with_kind("left", kind))
            live.send("a", ("help", 0))
            box = LiveBox("left", kind)
            box.lend(("a", 0), ("help", 0))
            self.assertEqual([live.box("left"), live.box("left").kind], [box, kind])

    def test_a_loop_in_which_messages_are_sent(self):
        for _ in self.live:
            self.live.send("a", ("help", 0))
        self.assertEqual(len(self.live), 10)

    def test_in_accepts_every_value(self):
        self.assertIn(self.live.log()[2], self.live)
        for value in ODD:
            self.assertNotIn(value, self.live)


class Equality(unittest.TestCase):
    def same(self, one, two, expected):
        for left, right in ((one, two), (two, one)):
            self.assertIs(left == right, expected)
            self.assertIs(left != right, not expected)

    def after(self, net, *messages, numbers=None):
        live = LiveNet(net, numbers=numbers)
        for message in messages:
            live.send(*message)
        return live

    def test_equal(self):
        first, second = ("a", ("help", 0)), ("help", ("left", 1))
        self.same(self.after(PAIR), self.after(PAIR), True)
        self.same(self.after(PAIR, first, second), self.after(PAIR, first, second), True)
        self.same(self.after(PAIR, first), self.after(PAIR, first, numbers=lambda many: many + 1), True)

    def test_another_net_log_or_numbers(self):
        first, second = ("a", ("help", 0)), ("b", ("help", 0))
        self.same(self.after(PAIR), self.after(TIGHT), False)
        self.same(self.after(PAIR, first, second), self.after(PAIR, second, first), False)
        self.same(self.after(PAIR, first), self.after(PAIR, first, second), False)
        self.same(self.after(PAIR, first), self.after(PAIR, first, numbers=lambda many: many), False)

    def test_lost_messages_with_other_numbers(self):
        # The log shows no number of a door that arrived nowhere.
        net = PAIR.with_kind("left", ("door", "any", "never"))
        start = (("a", ("help", 0)), ("help", ("left", 1)), ("a", ("left", 1)))
        self.same(self.after(net, *start), self.after(net, *start, numbers=Chooser(1, 77)), True)

    def test_hosts_that_know_other_doors(self):
        # In a round, a teller does not tell what it learns in it.
        net = Net({}, {"a": "open", "b": "open"}, tellers=("a", "b"), known=(("a", "b"),))
        one, two = LiveNet(net), LiveNet(net)
        one.round()
        for host, door in (("a", ("a", 0)), ("a", ("b", 0)), ("b", ("b", 0))):
            two.send(host, door)
        self.assertEqual(one.log(), two.log())
        self.same(one, two, True)
        net = Net({}, {"a": "open", "b": "open", "c": "open"}, tellers=("a", "b", "c"), known=(("a", "b"), ("b", "c")))
        one, two = LiveNet(net), LiveNet(net)
        one.round()
        for entry in one.log():
            two.send(*entry[:2])
        self.assertEqual(one.log(), two.log())
        self.same(one, two, False)

    def test_every_value(self):
        live = self.after(PAIR, ("a", ("help", 0)))
        for value in ODD + (live.log(), list(live)):
            self.same(live, value, False)


class Limit(unittest.TestCase):
    def filled(self, many, numbers=None):
        live = LiveNet(PAIR, numbers=numbers)
        for _ in range(many):
            live.send("help", ("help", 0))
        return live

    def refused(self, call, *arguments, **more):
        with self.assertRaises(TooMany) as caught:
            call(*arguments, **more)
        self.assertEqual(caught.exception.limit, 6000)

    def test_send(self):
        chooser = Chooser(-1)
        live = self.filled(5999, numbers=chooser)
        self.assertEqual(live.send("help", ("help", 0)), "help")
        before = state(live)
        self.refused(live.send, "help", ("help", 0))
        # Ahead of a wrong number, which is not asked for.
        self.refused(live.send, "a", ("help", 0))
        self.assertEqual([chooser.asked, state(live) == before, len(live)], [[], True, 6000])
        for error, arguments, more in (
            (UnknownName, ("z", ("help", 0)), {}), (InvalidDoor, ("a", None), {}),
            (InvalidNumber, ("a", ("help", 0)), {"own": 10}), (InvalidOperation, ("a", ("b", 0)), {}),
        ):
            with self.assertRaises(error):
                live.send(*arguments, **more)
        live.back()
        live.send("help", ("help", 0))
        self.refused(live.send, "help", ("help", 0))

    def test_a_round_as_a_whole(self):
        live = self.filled(5994)
        before = state(live)
        chooser = Chooser()
        for many in range(5995, 6001):
            live.send("help", ("help", 0))
            if many == 5995:
                copied = live.copy()
                self.assertEqual([copied.round(), len(copied)], [5, 6000])
                self.refused(copied.round)
            else:
                self.refused(live.round)
                self.assertEqual(len(live), many)
        live = self.filled(5996, numbers=chooser)
        self.refused(live.round)
        self.assertEqual([chooser.asked, len(live), before[2]], [[], 5996, 5994])


class Errors(unittest.TestCase):
    def setUp(self):
        self.live = LiveNet(row())
        for host in "abc":
            self.live.send(host, ("x", 0))
        self.before = state(self.live)

    def tearDown(self):
        self.assertEqual(state(self.live), self.before)

    def refused(self, error, *arguments, **more):
        with self.assertRaises(error) as caught:
            self.live.send(*arguments, **more)
        self.assertIs(type(caught.exception), error)
        return caught.exception

    def test_hosts(self):
        for value in ODD + ("inner", "open", "z"):
            self.assertIs(self.refused(UnknownName, value, ("x", 0)).name, value)
            self.assertIs(self.refused(UnknownName, value, None, own=-1).name, value)

    def test_doors(self):
        for value in ODD:
            self.refused(InvalidDoor, "a", value)
            self.refused(InvalidDoor, "a", value, own=10)

    def test_numbers_of_own_doors(self):
        for value in ODD + (10, -3, "1", (1,)):
            if type(value) is int and 0 <= value <= 9:
                continue
            self.assertIs(self.refused(InvalidNumber, "a", ("x", 0), own=value).value, value)
            self.assertIs(self.refused(InvalidNumber, "a", ("y", 0), own=value).value, value)

    def test_doors_that_are_not_known_or_cannot_be_reached(self):
        for host, door in (
            ("a", ("y", 0)), ("a", ("x", 1)), ("a", ("a", 1)), ("a", ("b", 0)), ("a", ("outer", 1)), ("x", ("z", 0)),
            ("x", ("open", 0)), ("x", ("outer", 0)), ("x", ("outer", 4)), ("x", ("inner", 1)), ("x", ("a", 0)),
        ):
            self.refused(InvalidOperation, host, door)

    def test_known_doors_of_other_areas(self):
        live = LiveNet(TIGHT.with_teller("a"))
        live.send("a", ("help", 0))
        self.assertIn(("a", 0), live.knows("help"))
        before = state(live)
        with self.assertRaises(InvalidOperation):
            live.send("help", ("a", 0))
        self.assertEqual(state(live), before)

    def test_own_is_passed_by_keyword(self):
        with self.assertRaises(TypeError):
            self.live.send("a", ("x", 0), 1)
        with self.assertRaises(TypeError):
            LiveNet(PAIR, None)


class WrongNumbers(unittest.TestCase):
    def test_at_each_box_of_one_message(self):
        for at in range(3):
            for value in (-1, True, None, "1", 1.5, (1,), [2]):
                numbers = [4, 5, 6]
                chooser = Chooser(*numbers[:at], value, 8, 9, 10)
                live = LiveNet(row(), numbers=chooser)
                before = state(live)
                with self.assertRaises(InvalidNumber) as caught:
                    live.send("a", ("x", 0), own=3)
                self.assertIs(caught.exception.value, value)
                self.assertEqual(state(live), before)
                self.assertEqual(live, LiveNet(row()))
                self.assertEqual(live.send("a", ("x", 0)), "x")
                self.assertEqual(live.log()[0][4], ("outer", 10))
                self.assertEqual(chooser.asked, [0] * (at + 4))

    def test_the_number_of_a_door_of_this_box(self):
        chooser = Chooser(1, 1, 1, 2, 2, 1, 2, 2, 2)
        live = LiveNet(row(), numbers=chooser)
        live.send("a", ("x", 0))
        before = state(live)
        with self.assertRaises(InvalidNumber) as caught:
            live.send("a", ("x", 0), own=1)
        self.assertEqual([caught.exception.value, state(live)], [1, before])
        self.assertEqual(live.send("a", ("x", 0), own=1), "x")
        self.assertEqual(chooser.asked, [0, 0, 0, 1, 1, 1, 1, 1, 1])

    def test_within_a_round(self):
        many = 6
        for at in range(many):
            chooser = Chooser(*range(10, 10 + at), -1, *range(20, 30))
            live = LiveNet(row(), numbers=chooser)
            live.send("x", ("x", 0))
            before = state(live)
            with self.assertRaises(InvalidNumber) as caught:
                live.round()
            self.assertEqual([caught.exception.value, state(live)], [-1, before])
            self.assertEqual(live.round(), 8)
            self.assertEqual(sorted(number for name in live.net.boxes for number in uses(live, name)),
                             list(range(20, 26)))
            live.back(many=2)
            self.assertEqual(state(live), state(LiveNet(row())))

    def test_a_chooser_that_fails(self):
        for many in range(6):
            chooser = Chooser(*range(10, 10 + many))
            live = LiveNet(row(), numbers=chooser)
            before = state(live)
            for call in (live.round, lambda: live.send("a", ("x", 0))):
                if many < 3 or call == live.round:
                    chooser.values = list(range(10, 10 + many))
                    with self.assertRaises(IndexError):
                        call()
                    self.assertEqual(state(live), before)

    def test_asked_once_for_each_new_door(self):
        for kind, asked in ((ANY, [0, 0, 0, 1, 1, 2]), (STRICT, [0, 0, 0, 1, 1, 2])):
            chooser = Chooser(*range(40))
            live = LiveNet(row(kind, kind, kind), numbers=chooser)
            live.round()
            self.assertEqual(chooser.asked, asked)
            live.send("a", ("x", 0))
            live.send("c", ("c", 0))
            self.assertEqual(chooser.asked, asked)


class Everywhere(unittest.TestCase):
    """What holds for all messages, on nets of many forms."""

    def test_each_step_of_each_message(self):
        chance = random.Random(3)
        for net in random_nets(11, 150):
            live = LiveNet(net, numbers=lambda many: 10 ** 9 - many)
            for _ in range(25):
                host = chance.choice(tuple(net))
                can = [door for door in live.knows(host) if net.area_of(door[0]) in net.areas_of(host)]
                self.check_step(live, host, chance.choice(can), chance.choice((0, 0, 0, 1)))

    def check_step(self, live, host, door, own):
        net, knew = live.net, {one: set(live.knows(one)) for one in live.net}
        boxes = {name: live.box(name) for name in net.boxes}
        shown = [(host, own)]
        for name in net.boxes_between(host, net.area_of(door[0])):
            shown.append(boxes[name].lend(shown[-1], door))
        hearer, source = self.arrival(net, boxes, shown, door)
        self.assertEqual(live.send(host, door, own=own), hearer)
        self.assertEqual(live.log()[-1], (host, door, own, hearer, source))
        self.assertEqual({name: live.box(name) for name in net.boxes}, boxes)
        knew[host].add((host, own))
        if hearer is not None:
            knew[hearer].add(source)
            knew[hearer].update(knew[host] if host in net.tellers else ())
        self.assertEqual({one: set(live.knows(one)) for one in net}, knew)

    def arrival(self, net, boxes, shown, door):
        source, first = shown[-1], True
        while door[0] in boxes:
            turned = first and len(shown) > 1 and shown[-1][0] == door[0]
            turning = net.kind_of(door[0])[2] if turned else "lent"
            if turning == "never" or (turning == "lent" and not boxes[door[0]].lets_in(door, source)):
                return None, None
            source = shown[-2] if turning == "inner" else source
            door, first = boxes[door[0]].inner(door), False
        return door[0], source


if __name__ == "__main__":
    unittest.main()
