"""Short talks (stage 11, [11.1] to [11.3])."""

import itertools
import random
import unittest

from lentdoors.base.nets import Net
from lentdoors.errors import InvalidNet, InvalidNumber, InvalidOperation, InvalidTalk, Unheard
from lentdoors.know.hearing import hears, talk_to
from lentdoors.know.short import crews, is_goal, is_short, least_round, part, reaches, short_talk, shortened
from lentdoors.know.sorts import live_sort, own_sort
from lentdoors.know.tables import least_table, read_message, rounds
from lentdoors.live.nets import LiveNet
from lentdoors.live.talks import Talk, carried, fits, hearers
from samples import CITY, DEEP, KINDS, LATE, MEET, NO_NETS, ODD, PAIR, STRICT, TIGHT, nested, random_nets
from test_live_changes import line
from test_sorts import all_sorts, refused
from test_tables import messages_of
from test_talks import NO_TALKS

# MEET with a message that nobody needs, and with one that reaches another goal at the end.
SHARE = Talk(
    ("a", ("own", "help")), ("b", ("own", "help")), ("a", ("own", "a")), ("help", ("shown", 0)),
    ("help", ("shown", 1)), ("a", ("shown", 1)), ("b", ("shown", 0)), ("a", ("shown", 1)),
)


def goals(net):
    """All goals of a net."""
    pairs = [(host, other) for host in net for other in net if host != other]
    return pairs + [(host, sort) for host in net for sort in all_sorts(net)]


def reachable(net):
    """The goals of a net that some talk reaches."""
    least = least_table(net)
    pairs = [(host, other) for host in net for other in net if host != other and hears(net, host, other)]
    return pairs + [(host, sort) for host in net for sort in least[host]]


def reaches_by_the_words(net, talk, goal):
    if not fits(net, talk):
        return False
    live, (host, what) = carried(net, talk), goal
    if isinstance(what, str):
        return what in live.heard(host)
    return what in [live_sort(live, door) for door in live.knows(host)]


def parts(talk):
    """The indices of all parts of a talk."""
    for many in range(len(talk) + 1):
        for indices in itertools.combinations(range(len(talk)), many):
            if all(talk[at][1][0] == "own" or talk[at][1][1] in indices for at in indices):
                yield indices


def is_short_by_the_words(net, talk, goal):
    smaller = [part(talk, indices) for indices in parts(talk) if len(indices) < len(talk)]
    return reaches_by_the_words(net, talk, goal) and not any(reaches_by_the_words(net, one, goal) for one in smaller)


def random_talk(chance, net, many):
    """A talk of messages that could be sent, to any doors that their senders know."""
    live, messages = LiveNet(net), []
    for _ in range(many):
        host = chance.choice(tuple(net))
        can = [door for door in live.knows(host) if net.area_of(door[0]) in net.areas_of(host)]
        door = chance.choice([one for one in can if one[0] != host] or can)
        shown = [("shown", at) for at, entry in enumerate(live.log()) if entry[4] == door]
        messages.append((host, chance.choice(shown + [("own", door[0])] * (door[0] in net.hosts))))
        live.send(host, door)
    return Talk(*messages)


def unheard(case, net, call, goal):
    with case.assertRaises(Unheard) as caught:
        call(net, goal)
    case.assertEqual(caught.exception.table, least_table(net))
    case.assertEqual(list(caught.exception.table), list(net))


class Goals(unittest.TestCase):
    def test_all_goals_and_no_others(self):
        for net in (PAIR, TIGHT, DEEP):
            found = goals(net)
            self.assertEqual([goal for goal in found if is_goal(net, goal) is not True], [])
            for host in net:
                for name in (*net, *net.boxes, "open", "z"):
                    self.assertIs(is_goal(net, (host, name)), (host, name) in found)
            for goal in found[::7]:
                for value in (list(goal), goal + goal[:1], goal[:1], goal[::-1], (goal,), ("z", goal[1]),
                              ("left", goal[1]), (goal[0], list(goal[1])), (goal[0], (goal[1],)), nested(goal, 1)):
                    self.assertIs(is_goal(net, value), value in found, value)

    def test_every_value(self):
        for value in ODD + ("a", MEET, (PAIR, "a"), (("a",), "b")):
            self.assertIs(is_goal(PAIR, value), False)
            self.assertIs(is_goal(PAIR, ("a", value)), False)
            self.assertIs(is_goal(PAIR, (value, "b")), value == "a")

    def test_errors(self):
        for value in NO_NETS:
            refused(self, InvalidNet, is_goal, value, ("a", "b"))


class Reaching(unittest.TestCase):
    def test_hosts(self):
        expected = {("help", "a"), ("help", "b"), ("a", "help"), ("a", "b"), ("b", "help"), ("b", "a")}
        for many in range(len(MEET) + 1):
            talk = Talk.of(MEET.messages()[:many])
            heard = {(hearer, message[0]) for hearer, message in zip(hearers(PAIR, talk), talk)}
            for goal in expected:
                self.assertIs(reaches(PAIR, talk, goal), goal in heard)

    def test_sorts(self):
        a, b = ("a", "open", None), ("b", "open", None)
        for goal, many in (
            (("a", own_sort(PAIR, "a")), 0), (("a", own_sort(PAIR, "help")), 0), (("help", a), 1), (("help", b), 2),
            (("a", a), 3), (("a", b), 3), (("b", a), 5), (("b", b), 5), (("help", own_sort(PAIR, "a")), 9),
        ):
            for at in range(len(MEET) + 1):
                self.assertIs(reaches(PAIR, Talk.of(MEET.messages()[:at]), goal), at >= many, (goal, at))

    def test_talks_that_do_not_fit(self):
        for talk in (MEET.without(4), Talk(("z", ("own", "a"))), Talk(("a", ("own", "b")))):
            for goal in (("help", "a"), ("a", own_sort(PAIR, "a"))):
                self.assertIs(reaches(PAIR, talk, goal), False)

    def test_against_the_words(self):
        chance, found = random.Random(1), set()
        for net in random_nets(5, 60, hosts=3):
            talk = random_talk(chance, net, 8)
            for goal in goals(net)[:40]:
                expected = reaches_by_the_words(net, talk, goal)
                self.assertIs(reaches(net, talk, goal), expected)
                found.add((expected, isinstance(goal[1], str)))
        self.assertEqual(len(found), 4)

    def test_errors_in_their_order(self):
        for call in (reaches, is_short, shortened):
            for value in NO_NETS:
                refused(self, InvalidNet, call, value, None, None)
            for value in NO_TALKS:
                refused(self, InvalidTalk, call, PAIR, value, None)
            for value in ODD + ("a", ("a", "a"), ("a", "z"), ("a", "left"), ("z", "a"), ("a", ("b", "left", None))):
                refused(self, InvalidOperation, call, PAIR, MEET, value)
        for goal in (("a", "b"), ("help", "b")):
            refused(self, InvalidOperation, shortened, PAIR, Talk(), goal)
        refused(self, InvalidOperation, shortened, PAIR, MEET.without(4), ("help", "a"))
        refused(self, InvalidOperation, shortened, TIGHT, MEET, ("a", "b"))


class Parts(unittest.TestCase):
    def test_references_are_adapted(self):
        self.assertEqual(part(MEET, (0, 2)).messages(), (("a", ("own", "help")), ("help", ("shown", 0))))
        self.assertEqual(part(MEET, (1, 3, 4)).messages(), (
            ("b", ("own", "help")), ("a", ("shown", 0)), ("help", ("shown", 0)),
        ))
        self.assertEqual([part(MEET, ()), part(MEET, (0, 1, 2, 3, 4, 5))], [Talk(), MEET])
        self.assertEqual(MEET.messages()[3], ("a", ("shown", 1)))

    def test_as_by_leaving_out_one_after_another(self):
        for indices in parts(MEET):
            talk = MEET
            for index in sorted(set(range(6)) - set(indices), reverse=True):
                talk = talk.without(index)
            self.assertEqual(part(MEET, indices), talk)

    def test_errors_in_their_order(self):
        for value in NO_TALKS:
            refused(self, InvalidTalk, part, value, None)
        for value in ODD + ([0], (0, 0), (1, 0), (0, True), (False,), (0, "1"), (0, None), (0, 99, 98), (-1, 0, None)):
            if value != ():
                refused(self, InvalidOperation, part, MEET, value)
        for indices, index in (((6,), 6), ((-1,), -1), ((-2, -1, 9), -2), ((2, 7, 8), 7), ((3, 10 ** 39), 10 ** 39)):
            with self.assertRaises(InvalidNumber) as caught:
                part(MEET, indices)
            self.assertEqual(caught.exception.value, index)
        for indices in ((2,), (1, 2), (0, 3), (0, 1, 2, 3, 4)[1:], (5,)):
            refused(self, InvalidOperation, part, MEET, indices)

    def test_each_choice_of_indices(self):
        good = set(parts(MEET))
        for many in range(7):
            for indices in itertools.combinations(range(6), many):
                if indices in good:
                    self.assertEqual(len(part(MEET, indices)), many)
                else:
                    refused(self, InvalidOperation, part, MEET, indices)


class Short(unittest.TestCase):
    def test_against_all_smaller_parts(self):
        chance, found = random.Random(2), {True: 0, False: 0}
        for net in random_nets(9, 150, hosts=3):
            if chance.random() < 0.5:
                net = net.with_teller("a").with_teller("b")
            talk = random_talk(chance, net, chance.randint(0, 6))
            able = [goal for goal in goals(net) if reaches(net, talk, goal)]
            for goal in chance.sample(able, min(len(able), 3)) + goals(net)[:2]:
                expected = is_short_by_the_words(net, talk, goal)
                self.assertIs(is_short(net, talk, goal), expected)
                if goal in able:
                    indices = shortened(net, talk, goal)
                    self.assertEqual(indices, tuple(sorted(set(indices))))
                    self.assertIs(is_short_by_the_words(net, part(talk, indices), goal), True)
                    found[expected] += 1
        self.assertGreater(min(found.values()), 30)

    def test_parts_of_talks_that_are_short(self):
        chance, found = random.Random(4), 0
        for net in random_nets(10, 60, hosts=4, boxes=2):
            able = reachable(net)
            for goal in chance.sample(able, min(len(able), 4)):
                talk = short_talk(net, goal)
                if len(talk) <= 6:
                    self.assertIs(is_short_by_the_words(net, talk, goal), True)
                    found += len(talk) > 3
                other = random_talk(chance, net, 3) + talk
                if fits(net, other):
                    indices = shortened(net, other, goal)
                    self.assertIs(is_short(net, part(other, indices), goal), True)
                    self.assertIs(is_short(net, other, goal), indices == tuple(range(len(other))))
        self.assertGreater(found, 3)

    def test_what_only_tells_is_needed(self):
        # No message refers to that by which help tells a of b, but without it the next one does not fit.
        self.assertIs(is_short(PAIR, MEET, ("a", "b")), True)
        self.assertEqual(shortened(PAIR, SHARE, ("a", "b")), (0, 1, 3, 4, 5, 6))
        self.assertEqual(shortened(PAIR, SHARE, ("b", "a")), (0, 1, 3, 4, 6, 7))
        self.assertEqual(shortened(PAIR, SHARE, ("a", ("b", "open", None))), (0, 1, 3))
        self.assertIs(is_short(PAIR, SHARE, ("a", "b")), False)

    def test_what_is_reached_at_first(self):
        for goal in (("a", own_sort(PAIR, "a")), ("a", own_sort(PAIR, "help"))):
            self.assertEqual([shortened(PAIR, MEET, goal), short_talk(PAIR, goal)], [(), Talk()])
            self.assertEqual([is_short(PAIR, Talk(), goal), is_short(PAIR, MEET, goal)], [True, False])

    def test_any_of_several_ways(self):
        talk = Talk(("a", ("own", "help")), ("a", ("own", "help")), ("help", ("shown", 1)))
        self.assertIn(shortened(PAIR, talk, ("help", "a")), ((0,), (1,)))
        self.assertEqual(shortened(PAIR, talk, ("a", "help")), (1, 2))
        self.assertIs(is_short(PAIR, talk, ("a", "help")), False)

    def test_long_talks(self):
        goal = ("a", "b")
        talk = Talk(*[("help", ("own", "help"))] * 5994) + MEET
        self.assertEqual(shortened(PAIR, talk, goal), tuple(range(5994, 6000)))
        hundred = Talk()
        for _ in range(100):
            hundred = hundred + MEET
        talk = hundred
        for _ in range(9):
            talk = talk + hundred
        indices = shortened(PAIR, talk, goal)
        self.assertIs(is_short(PAIR, part(talk, indices), goal), True)
        self.assertIs(is_short(PAIR, talk, goal), False)
        self.assertEqual(len(indices), 6)

    def test_a_long_talk_that_is_short(self):
        # Each message goes to the door that the one before it showed, and c tells a of the last one.
        net = PAIR.with_kind("left", ("door", "any", "never")).with_kind("right", ("door", "any", "never"))
        net = net.with_host("c", "open").with_known("b", "c").with_teller("b")
        messages = [("a", ("own", "help")), ("help", ("shown", 0)), ("b", ("own", "help")), ("help", ("shown", 2)),
                    ("b", ("shown", 0))]
        while len(messages) < 400:
            messages.append(("ab"[len(messages) % 2 == 0], ("shown", len(messages) - 1)))
        talk = Talk(*messages, ("b", ("own", "c")), ("c", ("shown", 399)))
        indices = shortened(net, talk, ("a", "c"))
        self.assertGreater(len(indices), 390)
        self.assertIs(is_short(net, part(talk, indices), ("a", "c")), True)


class ShortTalks(unittest.TestCase):
    def test_all_goals(self):
        for net in (PAIR, TIGHT, CITY) + tuple(random_nets(11, 30)):
            able = reachable(net)
            for goal in goals(net):
                if goal in able:
                    talk = short_talk(net, goal)
                    self.assertIs(reaches_by_the_words(net, talk, goal), True)
                    self.assertIs(is_short(net, talk, goal), True)
                    self.assertLessEqual(len(talk), 480)
                else:
                    unheard(self, net, short_talk, goal)

    def test_no_longer_than_other_talks(self):
        for net in (PAIR, CITY):
            for host, other in itertools.permutations(net, 2):
                if hears(net, host, other):
                    talk = talk_to(net, host, other)
                    self.assertLessEqual(len(shortened(net, talk, (host, other))), len(talk))

    def test_errors_in_their_order(self):
        for call in (short_talk, least_round, crews):
            for value in NO_NETS:
                refused(self, InvalidNet, call, value, None)
            for value in ODD + ("a", ("a", "a"), ("a", "z"), ("a", "left"), ("z", "a"), ("a", ("b", "left", None))):
                refused(self, InvalidOperation, call, PAIR, value)
                refused(self, InvalidOperation, call, TIGHT, value)
            unheard(self, TIGHT, call, ("a", "b"))
            unheard(self, TIGHT, call, ("a", ("a", "open", ("right",))))
            unheard(self, PAIR, call, ("help", ("a", "left", None)))


class LeastRound(unittest.TestCase):
    def test_against_the_rounds_of_tables(self):
        for net in (PAIR, TIGHT, CITY, DEEP, LATE) + tuple(random_nets(13, 40)):
            tables = list(rounds(net))
            heard = []
            for table in tables:
                found = [(read_message(net, table, host, sort)[0], host) for host, sort in messages_of(net, table)]
                heard.append(set(found))
            for goal in goals(net):
                host, what = goal
                if isinstance(what, str):
                    numbers = [at + 1 for at in range(len(tables)) if goal in heard[at]]
                else:
                    numbers = [at for at in range(len(tables)) if what in tables[at][host]]
                if numbers:
                    self.assertEqual(least_round(net, goal), numbers[0])
                else:
                    unheard(self, net, least_round, goal)

    def test_against_live_rounds(self):
        for net in random_nets(17, 40, hosts=3):
            live = LiveNet(net)
            for number in range(4):
                for goal in reachable(net):
                    host, what = goal
                    if isinstance(what, str):
                        reached = what in live.heard(host)
                    else:
                        reached = what in [live_sort(live, door) for door in live.knows(host)]
                    self.assertIs(reached, least_round(net, goal) <= number)
                if len(live) < 400:
                    live.round()
                else:
                    break

    def test_one_round_more_than_those_that_add_a_sort(self):
        net = line(tellers=("a", "b", "c"))
        self.assertEqual([least_round(net, goal) for goal in (("b", "a"), ("a", "b"), ("a", "c"), ("c", "a"))],
                         [1, 2, 3, 3])
        self.assertEqual(len(list(rounds(net))) - 1, 2)
        self.assertEqual(least_round(PAIR, ("a", own_sort(PAIR, "help"))), 0)


class Crews(unittest.TestCase):
    def does(self, net, goal, crew):
        """Whether messages of these hosts alone reach the goal, in a live net in which they send all that they can."""
        live, before = LiveNet(net), None
        host, what = goal
        while True:
            known = {one: {live_sort(live, door) for door in live.knows(one)} for one in net}
            now = (known, {one: live.heard(one) for one in net})
            if what in (now[1][host] if isinstance(what, str) else known[host]):
                return True
            if now == before:
                return False
            before = now
            for _ in range(2):
                sent = [(one, door) for one in crew for door in live.knows(one)
                        if net.area_of(door[0]) in net.areas_of(one)]
                for one, door in sent:
                    live.send(one, door)

    def test_against_all_sets_of_hosts(self):
        chance, found = random.Random(6), set()
        choice = [kind for kind in KINDS if kind[0] != "door"]
        for net in random_nets(19, 40, boxes=2, hosts=3, choice=choice) + [PAIR, TIGHT]:
            able = reachable(net)
            for goal in chance.sample(able, min(len(able), 4)):
                sets = [hosts for many in range(len(net) + 1) for hosts in itertools.combinations(tuple(net), many)]
                does = [hosts for hosts in sets if self.does(net, goal, hosts)]
                least = [hosts for hosts in does if not any(set(one) < set(hosts) for one in does)]
                self.assertEqual(crews(net, goal), tuple(sorted(least)))
                found.add(len(least[0]))
                # With more hosts than those of a crew the goal is reached, too.
                self.assertEqual([one for one in sets if any(set(crew) <= set(one) for crew in least)], does)
        self.assertEqual(found, {0, 1, 2, 3})

    def test_in_ascending_order(self):
        # The crew of two is found later than the other one, but is less.
        hosts = {name: "open" for name in ("a", "b", "x", "y")}
        known = (("a", "x"), ("b", "x"), ("b", "y"), ("y", "a"))
        net = Net({}, hosts, tellers=("a", "b"), known=known)
        self.assertEqual(crews(net, ("x", own_sort(net, "y"))), (("a", "y"), ("b",)))

    def test_nobody_has_to_send(self):
        self.assertEqual(crews(PAIR, ("a", own_sort(PAIR, "a"))), ((),))
        self.assertEqual(crews(PAIR, ("a", own_sort(PAIR, "help"))), ((),))

    def test_several_crews(self):
        hosts = {name: "open" for name in ("a", "b", "c", "d")}
        known = (("a", "c"), ("a", "d"), ("b", "c"), ("b", "d"))
        net = Net({}, hosts, tellers=("c", "d"), known=known)
        self.assertEqual(crews(net, ("a", "b")), (("a", "b", "c"), ("a", "b", "d")))
        self.assertEqual(crews(net, ("a", own_sort(net, "b"))), (("a", "b", "c"), ("a", "b", "d")))
        self.assertEqual(crews(net, ("c", "a")), (("a",),))
        net = net.with_known("b", "a")
        self.assertEqual(crews(net, ("a", "b")), (("b",),))

    def test_the_senders_of_a_short_talk_do(self):
        chance = random.Random(8)
        for net in random_nets(23, 40, hosts=5):
            able = reachable(net)
            for goal in chance.sample(able, min(len(able), 3)):
                senders = set(short_talk(net, goal).senders())
                self.assertTrue([crew for crew in crews(net, goal) if set(crew) <= senders])

    def test_strict_boxes_need_a_helper(self):
        net = TIGHT.with_kind("left", ("source", "door", "never")).with_kind("right", STRICT)
        self.assertEqual(crews(net, ("help", "a")), (("a",),))
        unheard(self, net, crews, ("b", "a"))


if __name__ == "__main__":
    unittest.main()
