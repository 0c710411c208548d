"""Talks (stage 5, [0.3], [0.16])."""

import random
import unittest

from lentdoors.base.nets import Net
from lentdoors.errors import InvalidNet, InvalidNumber, InvalidOperation, InvalidTalk
from lentdoors.live.nets import LiveNet
from lentdoors.live.talks import MAX_TALK, Talk, carried, fits, hearers
from samples import CITY, Chooser, MEET, NO_NETS, ODD, PAIR, STRICT, TIGHT, nested, random_nets

FIRST = ("a", ("own", "help"))
MESSAGES = (FIRST, ("b", ("own", "help")), ("help", ("shown", 0)), ("a", ("shown", 1)), ("help", ("shown", 0)))
NO_INDICES = tuple([value for value in ODD if type(value) is not int]) + ("0", (0,), [0], -1, -5)
NO_TALKS = tuple([value for value in ODD if not isinstance(value, Talk)]) + (MESSAGES, "talk")


def same(case, one, two, expected):
    for left, right in ((one, two), (two, one)):
        case.assertIs(left == right, expected)
        case.assertIs(left != right, not expected)


class Making(unittest.TestCase):
    def test_one_by_one_and_by_a_tuple(self):
        for many in range(len(MESSAGES) + 1):
            for talk in (Talk(*MESSAGES[:many]), Talk.of(MESSAGES[:many])):
                self.assertEqual(talk.messages(), MESSAGES[:many])
                self.assertEqual([tuple(talk), [message for message in talk]], [MESSAGES[:many], list(talk)])
                self.assertEqual([len(talk), str(talk)], [many, f"talk of {many} messages"])
                self.assertEqual([talk[at] for at in range(many)], list(MESSAGES[:many]))

    def test_names_are_those_of_no_net(self):
        talk = Talk(("open", ("own", "abcdefgh")), ("z", ("own", "z")), ("y", ("shown", 1)))
        self.assertEqual(talk.senders(), ("open", "y", "z"))

    def refused(self, *messages):
        for make in (lambda: Talk(*messages), lambda: Talk.of(messages)):
            with self.assertRaises(InvalidTalk) as caught:
                make()
            self.assertIs(type(caught.exception), InvalidTalk)

    def test_each_part_wrong_at_each_place(self):
        for at in range(len(MESSAGES) + 1):
            before, behind = MESSAGES[:at], MESSAGES[at:]
            for value in ODD + (("a", "b"), nested(FIRST, 1), nested(FIRST, 2), nested(FIRST, 3)):
                messages = [
                    value, (value, ("own", "help")), ("a", value), ("a", ("own", value)), ("a", (value, "help")),
                    ("a", (value, 0)), ("a", ("own", "help"), value), ("a", ("own", "help", value)),
                ]
                if type(value) is not int or not 0 <= value < at:
                    messages.append(("a", ("shown", value)))
                for message in messages:
                    self.refused(*before, message)
            self.refused(*before, ("a", ("shown", at)), *behind)
            for message in (
                "a", ("a", "a"), ("a", ("a", "own")), ("a", "own", "help"), ("a", ("own", 0)), ("a", ("shown", "help")),
                ("a", ("own", ("help", 0))), ("a", ("help", 0)),
                ("a", ("Own", "help")), ["a", ("own", "help")], ("a", ["own", "help"]), ("a", ("shown", True)),
                ("a", ("shown", False)), ("a", ("shown", -1)), ("a", ("shown", at + 1)), ("a", ("shown", 10 ** 39)),
                ("A", ("own", "help")), ("a", ("own", "")), ("abcdefghi", ("own", "help")), ("a", ("own", "help!")),
            ):
                self.refused(*before, message, *behind)

    def test_of_takes_a_tuple(self):
        for value in ODD:
            if value == ():
                continue
            with self.assertRaises(InvalidTalk):
                Talk.of(value)
        for value in (list(MESSAGES), {}, iter(MESSAGES), MEET, FIRST):
            with self.assertRaises(InvalidTalk):
                Talk.of(value)

    def test_six_thousand_messages(self):
        self.assertEqual(MAX_TALK, 6000)
        messages = (FIRST,) + tuple([("help", ("shown", at)) for at in range(5999)])
        self.assertEqual([len(Talk(*messages)), len(Talk.of(messages))], [6000, 6000])
        self.refused(*messages, FIRST)
        self.refused(*messages, FIRST, FIRST)


class Items(unittest.TestCase):
    def test_wrong_indices(self):
        talk = Talk(*MESSAGES)
        for value in NO_INDICES + (5, 6, 10 ** 39):
            for call in (lambda: talk[value], lambda: talk.without(value)):
                with self.assertRaises(InvalidNumber) as caught:
                    call()
                self.assertIs(caught.exception.value, value)
        with self.assertRaises(InvalidNumber):
            Talk()[0]
        with self.assertRaises(InvalidNumber):
            Talk().without(0)

    def test_in(self):
        talk = Talk(*MESSAGES)
        self.assertIn(MESSAGES[3], talk)
        for value in ODD:
            self.assertNotIn(value, talk)

    def test_senders(self):
        self.assertEqual([Talk().senders(), Talk(*MESSAGES).senders()], [(), ("a", "b", "help")])
        self.assertEqual(Talk(("z", ("own", "a")), ("b", ("own", "a")), ("z", ("own", "a"))).senders(), ("b", "z"))

    def test_equality(self):
        same(self, Talk(*MESSAGES), Talk.of(MESSAGES), True)
        same(self, Talk(), Talk(), True)
        for other in (Talk(), Talk(*MESSAGES[:4]), Talk(*MESSAGES[1:2], MESSAGES[0], *MESSAGES[2:])):
            same(self, Talk(*MESSAGES), other, False)
        for value in NO_TALKS + (list(MESSAGES),):
            same(self, Talk(*MESSAGES), value, False)
            same(self, Talk(), value, False)


class Adding(unittest.TestCase):
    def test_indices_are_greater(self):
        talk = Talk(*MESSAGES) + Talk(*MESSAGES)
        self.assertEqual(talk.messages(), MESSAGES + (
            FIRST, ("b", ("own", "help")), ("help", ("shown", 5)), ("a", ("shown", 6)), ("help", ("shown", 5)),
        ))
        self.assertEqual([Talk() + MEET, MEET + Talk(), Talk() + Talk()], [MEET, MEET, Talk()])

    def test_neither_changes(self):
        one, two = Talk(*MESSAGES), Talk(*MESSAGES[:3])
        one + two
        self.assertEqual([one.messages(), two.messages()], [MESSAGES, MESSAGES[:3]])

    def test_in_any_steps(self):
        talks = [Talk(*MESSAGES[:many]) for many in range(6)]
        for one in talks:
            for two in talks:
                for three in talks:
                    self.assertEqual((one + two) + three, one + (two + three))

    def test_errors(self):
        for value in NO_TALKS:
            with self.assertRaises(InvalidOperation):
                MEET + value

    def test_six_thousand_messages(self):
        many = Talk(*[FIRST] * 3000)
        full = many + many
        self.assertEqual([len(full), full + Talk()], [6000, full])
        for one, two in ((full, Talk(FIRST)), (Talk(FIRST), full), (full, full)):
            with self.assertRaises(InvalidOperation):
                one + two


class Without(unittest.TestCase):
    def test_later_indices_are_less(self):
        talk = Talk(FIRST, FIRST, ("help", ("shown", 0)), FIRST, ("help", ("shown", 2)), ("help", ("shown", 3)))
        self.assertEqual(talk.without(1).messages(), (
            FIRST, ("help", ("shown", 0)), FIRST, ("help", ("shown", 1)), ("help", ("shown", 2)),
        ))
        self.assertEqual(talk.without(5).messages(), talk.messages()[:5])
        self.assertEqual(talk.without(5).without(3).messages()[3], ("help", ("shown", 2)))
        self.assertEqual(Talk(FIRST).without(0), Talk())
        self.assertEqual(len(talk), 6)

    def test_errors(self):
        talk = Talk(FIRST, FIRST, ("help", ("shown", 0)), FIRST, ("help", ("shown", 2)), ("help", ("shown", 3)))
        for index in (0, 2, 3):
            with self.assertRaises(InvalidOperation):
                talk.without(index)

    def test_a_twofold_reference(self):
        with self.assertRaises(InvalidOperation):
            Talk(FIRST, ("help", ("shown", 0)), ("help", ("shown", 0))).without(0)


class Fitting(unittest.TestCase):
    def test_talks_that_fit(self):
        for talk in (Talk(), MEET, MEET + MEET, Talk(("a", ("own", "a"))), Talk(FIRST, FIRST, ("help", ("shown", 1)))):
            self.assertIs(fits(PAIR, talk), True)

    def test_talks_that_do_not(self):
        for messages in (
            (("z", ("own", "help")),), (("a", ("own", "z")),), (("a", ("own", "b")),), (("help", ("own", "a")),),
            (("left", ("own", "help")),), (("a", ("own", "left")),), (("open", ("own", "help")),),
            # The target is shown to another host, or not told yet, or lost, or does not lie in an area of the sender.
            (FIRST, ("b", ("shown", 0))), (FIRST, ("a", ("shown", 0))),
            (FIRST, ("b", ("own", "help")), ("a", ("shown", 1))),
            (*MEET.messages()[:4], ("b", ("shown", 3))),
            (*MEET.messages(), ("z", ("own", "help"))),
        ):
            self.assertIs(fits(PAIR, Talk(*messages)), False, messages)
        net = TIGHT.with_teller("a")
        self.assertIs(fits(net, Talk(FIRST)), True)
        self.assertIs(fits(net, Talk(("a", ("own", "a")), FIRST, ("help", ("shown", 0)))), False)

    def test_an_area_that_the_sender_has_not(self):
        net = PAIR.with_host("c", "left").with_known("a", "c").with_teller("a")
        # help is told of the door of c, and of the one that a showed to c; c can send to the latter one.
        talk = Talk(("a", ("own", "c")), FIRST)
        self.assertIn(("c", 0), carried(net, talk).knows("help"))
        for message, expected in (
            (("help", ("own", "c")), False), (("help", ("shown", 0)), False), (("c", ("shown", 0)), True),
            (("help", ("shown", 1)), True), (("a", ("shown", 0)), True),
        ):
            self.assertIs(fits(net, Talk(*talk.messages(), message)), expected, message)

    def test_a_message_to_a_box_is_none(self):
        # No number that a box lends makes its door that of a host.
        talk = Talk(FIRST, ("help", ("own", "left")))
        self.assertIs(fits(PAIR, talk), False)
        with self.assertRaises(InvalidOperation):
            carried(PAIR, talk, numbers=lambda many: many)

    def test_each_prefix_of_a_talk_that_fits(self):
        for many in range(len(MEET) + 1):
            talk = Talk.of(MEET.messages()[:many])
            self.assertIs(fits(PAIR, talk), True)
            self.assertEqual(hearers(PAIR, talk), ("help", "help", "a", None, "b", "a")[:many])

    def test_without_what_a_later_one_needs(self):
        self.assertEqual([fits(PAIR, MEET.without(at)) for at in (3, 4, 5)], [True, False, True])
        self.assertEqual(hearers(PAIR, MEET.without(3)), ("help", "help", "a", "b", None))


class Carrying(unittest.TestCase):
    def test_as_by_calls_of_send(self):
        live = carried(PAIR, MEET)
        other = LiveNet(PAIR)
        for host, door in (("a", ("help", 0)), ("b", ("help", 0)), ("help", ("left", 1)), ("a", ("right", 1)),
                           ("help", ("right", 1)), ("b", ("left", 1))):
            other.send(host, door)
        self.assertEqual(live, other)
        live.back(many=2)
        other.back(many=2)
        self.assertEqual([live, len(live)], [other, 4])
        live.back(many=4)
        self.assertEqual(live, LiveNet(PAIR))

    def test_an_empty_talk(self):
        self.assertEqual([carried(CITY, Talk()), hearers(CITY, Talk())], [LiveNet(CITY), ()])

    def test_choosers(self):
        chooser = Chooser(44, 55)
        live = carried(PAIR, MEET, numbers=chooser)
        self.assertEqual([entry[4] for entry in live], [
            ("left", 44), ("right", 55), ("help", 0), None, ("help", 0), ("right", 55),
        ])
        self.assertEqual(chooser.asked, [0, 0])
        chooser.values.append(3)
        live.send("a", ("help", 0), own=1)
        self.assertEqual(live.log()[-1][4], ("left", 3))

    def test_the_numbers_do_not_matter(self):
        chance = random.Random(9)
        for net in random_nets(17, 60):
            talk = self.random_talk(chance, net)
            self.assertIs(fits(net, talk), True)
            for numbers in (None, lambda many: many, lambda many: 10 ** 20 - many, lambda many: many * many + 3):
                live = carried(net, talk, numbers=numbers)
                self.assertEqual(tuple([entry[3] for entry in live]), hearers(net, talk))
                self.assertEqual([len(live), [entry[0] for entry in live]], [len(talk), [one[0] for one in talk]])

    def random_talk(self, chance, net):
        """A talk of messages of which each could be sent, and refers to any message that showed its door."""
        live, messages = LiveNet(net), []
        for _ in range(12):
            host = chance.choice(tuple(net))
            can = [door for door in live.knows(host) if net.area_of(door[0]) in net.areas_of(host)]
            door = chance.choice(can)
            shown = [("shown", at) for at, entry in enumerate(live.log()) if entry[4] == door]
            messages.append((host, chance.choice(shown + [("own", door[0])] * (door[0] in net.hosts))))
            live.send(host, door)
        return Talk(*messages)

    def test_six_thousand_messages(self):
        talk = Talk(*[FIRST] * 6000)
        self.assertIs(fits(PAIR, talk), True)
        self.assertEqual(len(carried(PAIR, talk)), 6000)
        self.assertEqual(hearers(PAIR, talk), ("help",) * 6000)


class Errors(unittest.TestCase):
    def refused(self, error, call, *arguments, **more):
        with self.assertRaises(error) as caught:
            call(*arguments, **more)
        self.assertIs(type(caught.exception), error)
        return caught.exception

    def test_nets_and_talks(self):
        for call in (fits, carried, hearers):
            for value in NO_NETS:
                self.refused(InvalidNet, call, value, MEET)
                self.refused(InvalidNet, call, value, None)
            for value in NO_TALKS:
                self.refused(InvalidTalk, call, PAIR, value)

    def test_talks_that_do_not_fit(self):
        talk = MEET.without(4)
        for call in (carried, hearers):
            self.refused(InvalidOperation, call, PAIR, talk)
        # Ahead of a wrong number, also for a message in front of the one that does not fit.
        chooser = Chooser()
        self.refused(InvalidOperation, carried, PAIR, talk, numbers=chooser)
        self.assertEqual(chooser.asked, [])

    def test_wrong_numbers(self):
        for numbers, value in ((lambda many: -1, -1), (lambda many: True, True), (lambda many: None, None)):
            self.assertIs(self.refused(InvalidNumber, carried, PAIR, MEET, numbers=numbers).value, value)
        net = PAIR.with_kind("left", STRICT)
        self.assertEqual(self.refused(InvalidNumber, carried, net, MEET, numbers=lambda many: 7).value, 7)
        self.assertEqual(hearers(net, MEET), ("help", "help", "a", None, "b", None))

    def test_numbers_are_passed_by_keyword(self):
        for call in (fits, carried, hearers):
            with self.assertRaises(TypeError):
                call(PAIR, MEET, None)

    def test_nothing_changes(self):
        net = Net(PAIR.boxes, PAIR.hosts, tellers=PAIR.tellers, known=PAIR.known)
        messages = MEET.messages()
        carried(PAIR, MEET).round()
        self.assertEqual([PAIR, MEET.messages()], [net, messages])


if __name__ == "__main__":
    unittest.main()
