"""Rounds of live nets, what is taken back, and copies (stage 4)."""

import random
import unittest

from lentdoors.base.nets import Net
from lentdoors.errors import InvalidNumber, NothingToUndo, TooMany
from lentdoors.live.nets import LiveNet
from samples import CITY, Chooser, DEEP, ODD, PAIR, STRICT, TIGHT, random_nets
from test_live_nets import row, state


def line(tellers=()):
    """Three hosts in one area, of which each knows the next one."""
    return Net({}, {"a": "open", "b": "open", "c": "open"}, tellers=tellers, known=(("a", "b"), ("b", "c")))


class Rounds(unittest.TestCase):
    def test_messages_in_their_order(self):
        live = LiveNet(PAIR)
        self.assertEqual(live.round(), 5)
        self.assertEqual(live.log(), (
            ("a", ("a", 0), 0, "a", ("a", 0)), ("a", ("help", 0), 0, "help", ("left", 1)),
            ("b", ("b", 0), 0, "b", ("b", 0)), ("b", ("help", 0), 0, "help", ("right", 1)),
            ("help", ("help", 0), 0, "help", ("help", 0)),
        ))
        self.assertEqual(live.round(), 7)
        self.assertEqual([entry[:4] for entry in live.log()[9:]], [
            ("help", ("help", 0), 0, "help"), ("help", ("left", 1), 0, "a"), ("help", ("right", 1), 0, "b"),
        ])
        self.assertEqual([live.round(), len(live)], [11, 23])
        self.assertEqual([live.heard("a"), live.heard("b")], [("a", "b", "help"), ("a", "b", "help")])

    def test_hosts_and_doors_both_ascending(self):
        net = Net({}, {"c": "open", "a": "open", "b": "open"}, known=(("c", "a"), ("c", "b")))
        live = LiveNet(net)
        self.assertEqual(live.round(), 5)
        self.assertEqual([entry[:2] for entry in live], [
            ("a", ("a", 0)), ("b", ("b", 0)), ("c", ("a", 0)), ("c", ("b", 0)), ("c", ("c", 0)),
        ])

    def test_doors_of_all_numbers_from_the_own_door_0(self):
        live = LiveNet(line())
        live.send("a", ("b", 0), own=7)
        self.assertEqual(live.round(), 7)
        self.assertEqual([entry[:3] for entry in live.log()[1:]], [
            ("a", ("a", 0), 0), ("a", ("a", 7), 0), ("a", ("b", 0), 0),
            ("b", ("a", 7), 0), ("b", ("b", 0), 0), ("b", ("c", 0), 0), ("c", ("c", 0), 0),
        ])

    def test_known_doors_of_other_areas_get_none(self):
        live = LiveNet(TIGHT.with_teller("a"))
        live.send("a", ("help", 0))
        self.assertEqual(live.knows("help"), (("a", 0), ("help", 0), ("left", 1)))
        self.assertEqual(live.round(), 6)
        self.assertNotIn(("help", ("a", 0)), [entry[:2] for entry in live])

    def test_all_go_out_before_any_arrives(self):
        # Both messages are let in, each because the other one has been sent; one after another they are not.
        net = PAIR.with_kind("left", ("source", "door", "never")).with_kind("right", ("source", "door", "never"))
        live, other = LiveNet(net), LiveNet(net)
        for one in (live, other):
            for host, door in (("a", ("help", 0)), ("b", ("help", 0)), ("help", ("left", 1)), ("help", ("right", 1))):
                one.send(host, door)
        live.round()
        self.assertEqual([live.heard("a"), live.heard("b")], [("a", "b", "help"), ("a", "b", "help")])
        self.assertEqual([other.send("a", ("right", 1)), other.send("b", ("left", 1))], [None, "a"])

    def test_a_teller_tells_what_it_knew_before(self):
        live = LiveNet(line(tellers=("a", "b", "c")))
        self.assertEqual(live.round(), 5)
        self.assertEqual([live.knows(host) for host in "abc"], [
            (("a", 0), ("b", 0)), (("a", 0), ("b", 0), ("c", 0)), (("b", 0), ("c", 0)),
        ])
        self.assertEqual(live.round(), 7)
        self.assertEqual([live.knows(host) for host in "abc"], [(("a", 0), ("b", 0), ("c", 0))] * 3)

    def test_a_host_alone(self):
        live = LiveNet(Net({}, {"a": "open"}))
        self.assertEqual([live.round(), live.round(), live.heard("a"), live.knows("a")], [1, 1, ("a",), (("a", 0),)])

    def test_numbers_are_asked_for_in_the_order_of_going_out(self):
        chooser = Chooser(3, 4, 5, 6, 7, 8)
        live = LiveNet(row(), numbers=chooser)
        live.round()
        found = [live.log()[at][4] for at in (1, 3, 5)]
        self.assertEqual(found, [("outer", 5), ("outer", 7), ("outer", 8)])
        self.assertEqual(chooser.asked, [0, 0, 0, 1, 1, 2])

    def test_a_round_of_many_messages_one_by_one(self):
        # Where nobody tells and boxes let in all, the order of going out and coming in does not matter.
        for net in random_nets(7, 60, choice=[(lending, "any", "lent") for lending in ("source", "address", "door")]):
            net = Net(net.boxes, net.hosts, known=net.known)
            live, other = LiveNet(net), LiveNet(net)
            for _ in range(2):
                many = len(live)
                live.round()
                for entry in live.log()[many:]:
                    other.send(*entry[:2])
            self.assertEqual(state(live), state(other))


class Back(unittest.TestCase):
    def check(self, live, before, many):
        """Take back this many calls, up to the state in front of them."""
        live.back(many=many)
        self.assertEqual(state(live), before)

    def test_one_call_by_default(self):
        live = LiveNet(PAIR)
        first = state(live)
        live.send("a", ("help", 0))
        second = state(live)
        live.send("b", ("help", 0), own=3)
        self.assertIsNone(live.back())
        self.assertEqual(state(live), second)
        live.back()
        self.assertEqual(state(live), first)

    def test_many_calls(self):
        for many in range(5):
            live = LiveNet(PAIR)
            states = [state(live)]
            for host, door in (("a", ("help", 0)), ("b", ("help", 0)), ("help", ("left", 1)), ("a", ("right", 1))):
                live.send(host, door)
                states.append(state(live))
            self.check(live, states[4 - many], many)

    def test_a_round_as_a_whole(self):
        live = LiveNet(CITY)
        states = [state(live)]
        for _ in range(3):
            live.round()
            states.append(state(live))
        live.send("a", ("help", 0), own=5)
        self.check(live, states[3], 1)
        self.check(live, states[2], 1)
        live.send("b", ("help", 0))
        self.check(live, states[0], 3)

    def test_what_was_known_before_stays(self):
        live = LiveNet(PAIR)
        live.send("a", ("help", 0))
        live.send("a", ("help", 0))
        live.back()
        self.assertEqual(live.knows("help"), (("help", 0), ("left", 1)))
        live.send("a", ("a", 0))
        live.back()
        self.assertIn(("a", 0), live.knows("a"))

    def test_uses_of_a_door_that_stays(self):
        live = LiveNet(PAIR)
        for host, door in (("a", ("help", 0)), ("b", ("help", 0)), ("help", ("left", 1)), ("help", ("right", 1))):
            live.send(host, door)
        live.send("a", ("right", 1))
        self.assertEqual(live.box("left").used(("left", 1)), (("help", 0), ("right", 1)))
        self.assertEqual(live.copy().send("b", ("left", 1)), "a")
        live.back()
        self.assertEqual(live.box("left").used(("left", 1)), (("help", 0),))
        self.assertIsNone(live.send("b", ("left", 1)))

    def test_choosers_are_asked_anew(self):
        chooser = Chooser(5, 6, 7, 8, 5, 3)
        live = LiveNet(row(), numbers=chooser)
        live.send("a", ("x", 0))
        live.back()
        self.assertEqual([len(live.box(name)) for name in live.net.boxes], [0, 0, 0])
        live.send("a", ("x", 0))
        # The number 5 was lent by the box inner in what was taken back, and may be lent again.
        self.assertEqual(live.log()[0][4], ("outer", 3))
        self.assertEqual([list(live.box(name)) for name in ("inner", "mid")], [[("inner", 8)], [("mid", 5)]])
        self.assertEqual(chooser.asked, [0] * 6)

    def test_asked_anew_for_what_was_lent_later_alone(self):
        chooser = Chooser(5, 6, 7, 9, 6)
        live = LiveNet(PAIR, numbers=chooser)
        live.send("a", ("help", 0))
        live.send("a", ("help", 0), own=1)
        live.send("a", ("help", 0), own=2)
        live.back(many=2)
        live.send("a", ("help", 0), own=2)
        live.send("a", ("help", 0), own=1)
        self.assertEqual([entry[4] for entry in live], [("left", 5), ("left", 9), ("left", 6)])
        self.assertEqual(chooser.asked, [0, 1, 2, 1, 2])
        self.assertEqual(live.box("left").inner(("left", 6)), ("a", 1))

    def test_the_same_again(self):
        live = LiveNet(DEEP)
        for _ in range(3):
            live.round()
        before = state(live)
        live.back(many=3)
        for _ in range(3):
            live.round()
        self.assertEqual(state(live), before)

    def test_any_calls_on_many_nets(self):
        chance = random.Random(5)
        for net in random_nets(21, 60):
            live = LiveNet(net, numbers=lambda many: 7 * many)
            states = [state(live)]
            for _ in range(12):
                if chance.random() < 0.3 and len(live) < 200:
                    live.round()
                else:
                    host = chance.choice(tuple(net))
                    can = [door for door in live.knows(host) if net.area_of(door[0]) in net.areas_of(host)]
                    live.send(host, chance.choice(can), own=chance.choice((0, 1)))
                states.append(state(live))
                if chance.random() < 0.4:
                    many = chance.randint(0, len(states) - 1)
                    states = states[:len(states) - many]
                    self.check(live, states[-1], many)
            self.check(live, states[0], len(states) - 1)

    def test_errors(self):
        live = LiveNet(PAIR)
        live.send("a", ("help", 0))
        live.round()
        before = state(live)
        for value in ODD + ("1", (1,), -1):
            if type(value) is int and value >= 0:
                continue
            with self.assertRaises(InvalidNumber) as caught:
                live.back(many=value)
            self.assertIs(caught.exception.value, value)
        for many in (3, 4, 10 ** 40 - 1):
            with self.assertRaises(NothingToUndo) as caught:
                live.back(many=many)
            self.assertEqual(caught.exception.many, many)
        with self.assertRaises(TypeError):
            live.back(1)
        self.assertEqual(state(live), before)
        live.back(many=2)
        live.back(many=0)
        with self.assertRaises(NothingToUndo) as caught:
            live.back()
        self.assertEqual(caught.exception.many, 1)

    def test_a_call_that_raised_an_error_is_none(self):
        live = LiveNet(PAIR, numbers=Chooser(1, -1))
        live.send("a", ("help", 0))
        for call in (lambda: live.send("b", ("help", 0)), lambda: live.send("b", ("a", 0)), lambda: live.back(many=2)):
            with self.assertRaises((ValueError, LookupError)):
                call()
        live.back()
        self.assertEqual(state(live), state(LiveNet(PAIR)))

    def test_six_thousand_calls(self):
        live = LiveNet(PAIR)
        for _ in range(6000):
            live.send("a", ("help", 0))
        for _ in range(5999):
            live.back()
        self.assertEqual([len(live), live.knows("help")], [1, (("help", 0), ("left", 1))])


class Copies(unittest.TestCase):
    def test_equal_and_by_itself(self):
        live = LiveNet(PAIR)
        live.send("a", ("help", 0))
        live.round()
        before = state(live)
        other = live.copy()
        self.assertEqual([other, state(other)], [live, before])
        other.send("b", ("help", 0), own=4)
        other.round()
        self.assertEqual(state(live), before)
        after = state(other)
        live.back(many=2)
        live.send("b", ("help", 0))
        self.assertEqual(state(other), after)

    def test_the_same_calls_to_take_back(self):
        live = LiveNet(CITY)
        states = [state(live)]
        for call in (live.round, live.round, lambda: live.send("a", ("help", 0), own=3)):
            call()
            states.append(state(live))
        for many in range(4):
            other = live.copy()
            other.back(many=many)
            self.assertEqual(state(other), states[3 - many])
        with self.assertRaises(NothingToUndo):
            live.copy().back(many=4)
        self.assertEqual(state(live), states[3])

    def test_the_same_chooser(self):
        chooser = Chooser(4, 7, 2)
        live = LiveNet(PAIR, numbers=chooser)
        live.send("a", ("help", 0))
        other = live.copy()
        other.send("a", ("help", 0), own=1)
        live.send("a", ("help", 0), own=1)
        self.assertEqual([other.log()[1][4], live.log()[1][4]], [("left", 7), ("left", 2)])
        self.assertEqual(chooser.asked, [0, 1, 1])

    def test_a_copy_of_a_copy(self):
        live = LiveNet(TIGHT)
        live.round()
        other = live.copy().copy()
        live.back()
        other.back()
        self.assertEqual(state(live), state(other))

    def test_the_limit_is_that_of_the_copy(self):
        live = LiveNet(Net({}, {"a": "open"}))
        for _ in range(5999):
            live.send("a", ("a", 0))
        other = live.copy()
        self.assertEqual([other.round(), live.round()], [1, 1])
        for one in (live, other):
            with self.assertRaises(TooMany):
                one.round()

    def test_boxes_of_a_strict_net(self):
        live = LiveNet(row(STRICT, STRICT, STRICT))
        live.round()
        other = live.copy()
        other.send("x", ("outer", 1))
        self.assertEqual([live.heard("a"), other.heard("a")], [("a",), ("a", "x")])


if __name__ == "__main__":
    unittest.main()
