"""Tables (stage 9, [0.17], [0.18], [9.1])."""

import random
import unittest

from lentdoors.base.nets import Net
from lentdoors.errors import InvalidNet, InvalidOperation, InvalidSort, InvalidTable
from lentdoors.know.sorts import address_of, is_single, live_sort, own_sort, source_sort, used_sorts
from lentdoors.know.tables import first_table, is_closed, is_table, least_table, read_message, rounds
from lentdoors.live.nets import LiveNet
from samples import CITY, DEEP, KINDS, LATE, MEET, NO_NETS, ODD, PAIR, TIGHT, nested, random_nets, wide_net
from test_live_changes import line
from test_sorts import STEPS, all_sorts, refused, unknown

NETS = (PAIR, TIGHT, CITY, DEEP, LATE, STEPS)
X, Y = ("x", "open", None), ("y", "open", None)


def read_by_the_words(net, table, host, target):
    """What [0.18] says of a message, step by step."""
    source = source_sort(net, host, target)
    way = list(net.boxes_between(*target[:2]))
    if way and way[-1] in net.boxes_between(host, target[1]):
        turning = net.kind_of(way[-1])[2]
        if turning == "never":
            return (None, None)
        if turning == "inner":
            source = source_sort(net, host, target, area=way[-1])
            way.pop()
    for box in reversed(way):
        used = used_sorts(net, box, target, table[target[0]])
        letting = net.kind_of(box)[1]
        if letting == "address" and address_of(net, source) not in [address_of(net, sort) for sort in used]:
            return (None, None)
        if letting == "door" and (is_single(net, source) or source not in used):
            return (None, None)
    return (target[0], source)


def messages_of(net, table):
    return [(host, sort) for host in net for sort in table[host] if sort[1] in net.areas_of(host)]


def is_closed_by_the_words(net, table):
    for host, sorts in first_table(net).items():
        if not set(sorts) <= set(table[host]):
            return False
    for host, sort in messages_of(net, table):
        hearer, source = read_by_the_words(net, table, host, sort)
        told = (source, *(table[host] if host in net.tellers else ()))
        if hearer is not None and not set(told) <= set(table[hearer]):
            return False
    return True


def full_table(net):
    """The table in which every host has all sorts."""
    return {host: tuple(sorted(all_sorts(net))) for host in net}


def some_tables(chance, net):
    """The least table, the full one, and tables between and beside them."""
    least, full = least_table(net), full_table(net)
    tables = [least, full, first_table(net)]
    for share in (0.1, 0.5, 0.9):
        tables.append({host: tuple([sort for sort in full[host] if chance.random() < share]) for host in net})
        tables.append({host: tuple([sort for sort in full[host] if sort in least[host] or chance.random() < share])
                       for host in net})
    return tables


def at_the_door(kind):
    """h stands behind the box left of this kind, x and y in the open, k and m behind boxes that let in all."""
    boxes = {"left": ("open", kind), "far": ("open", ("address", "any", "never")),
             "dark": ("open", ("door", "any", "never"))}
    return Net(boxes, {"h": "left", "x": "open", "y": "open", "k": "far", "m": "dark"})


class Judging(unittest.TestCase):
    def test_right_tables(self):
        for net in NETS:
            for table in (first_table(net), least_table(net), full_table(net), {host: () for host in net}):
                self.assertIs(is_table(net, table), True)
                turned = {host: table[host] for host in reversed(list(table))}
                self.assertIs(is_table(net, turned), True)
                self.assertIs(is_closed(net, turned), is_closed(net, table))

    def test_the_least_and_the_full_one_are_closed(self):
        for net in NETS + tuple(random_nets(3, 40)):
            self.assertIs(is_closed(net, least_table(net)), True)
            self.assertIs(is_closed(net, full_table(net)), True)
            self.assertIs(is_closed(net, {host: () for host in net}), False)

    def test_a_sort_less(self):
        # A table within the least closed one is never closed.
        for net in NETS + tuple(random_nets(5, 25)):
            least = least_table(net)
            for host in net:
                for sort in least[host]:
                    table = {**least, host: tuple([one for one in least[host] if one != sort])}
                    self.assertEqual([is_table(net, table), is_closed(net, table)], [True, False])

    def test_closed_against_the_words(self):
        chance, found = random.Random(6), set()
        for net in random_nets(7, 40, hosts=4):
            for table in some_tables(chance, net):
                expected = is_closed_by_the_words(net, table)
                found.add(expected)
                self.assertIs(is_closed(net, table), expected)
        self.assertEqual(found, {True, False})

    def test_a_closed_table_beside_the_least_one(self):
        least = least_table(PAIR.without("b"))
        own = own_sort(PAIR, "b")
        table = {host: tuple(sorted({*least_table(PAIR)[host], own})) for host in PAIR}
        self.assertEqual([is_closed(PAIR, table), table == least_table(PAIR)], [True, False])
        self.assertIs(is_table(PAIR, least), False)
        self.assertIs(is_closed(PAIR, {**table, "help": least_table(PAIR)["help"]}), True)
        # A teller tells of doors of other areas, too.
        self.assertIs(is_closed(PAIR, {**table, "a": least_table(PAIR)["a"]}), False)

    def test_what_a_teller_has_is_heard(self):
        net = line(tellers=("a",))
        a, b, c = [own_sort(net, host) for host in "abc"]
        self.assertIs(is_closed(net, {"a": (a, b), "b": (a, b, c), "c": (b, c)}), True)
        self.assertIs(is_closed(net, {"a": (a, b, c), "b": (a, b, c), "c": (a, b, c)}), True)
        self.assertIs(is_closed(net, {"a": (a, b, c), "b": (a, b, c), "c": (b, c)}), False)
        self.assertIs(is_closed(net, {"a": (a, b), "b": (a, b, c), "c": (c,)}), False)
        self.assertIs(is_closed(net.with_teller("b"), {"a": (a, b), "b": (a, b, c), "c": (b, c)}), False)

    def test_values_near_to_tables(self):
        for net in NETS:
            table = least_table(net)
            wrong = [list(table.items()), tuple(table.items()), (table,), [table], {**table, "z": ()}, {**table, 0: ()},
                     {**table, (0,): ()}, {**table, None: ()}]
            for host in net:
                sorts = table[host]
                wrong.append({one: table[one] for one in table if one != host})
                for value in (list(sorts), sorts[::-1] + sorts[:1], sorts + sorts[-1:], sorts + (None,), (sorts,),
                              sorts[0], dict.fromkeys(sorts), sorts + (("z", "open", None),), (host,), sorts + (0,),
                              sorts[:1] + (["x"],), sorts[:1] + ((host, "open", ["x"]),)):
                    wrong.append({**table, host: value})
                for value in ODD:
                    if value != ():
                        wrong.append({**table, host: value})
                    wrong.append({**table, host: sorts + (value,)})
            for value in wrong:
                for call in (is_table, is_closed):
                    self.assertIs(call(net, value), False, value)

    def test_every_value(self):
        for value in ODD + (MEET, nested({}, 10), {"a": ()}, {host: () for host in DEEP}):
            for call in (is_table, is_closed):
                self.assertIs(call(PAIR, value), False)

    def test_errors(self):
        for value in NO_NETS:
            for call in (is_table, is_closed, first_table, least_table):
                refused(self, InvalidNet, call, *((value, None) if call in (is_table, is_closed) else (value,)))

    def test_arguments_do_not_change(self):
        table = {host: least_table(CITY)[host] for host in reversed(list(CITY))}
        kept = list(table.items())
        is_closed(CITY, table)
        read_message(CITY, table, "a", own_sort(CITY, "help"))
        self.assertEqual(list(table.items()), kept)


class Reading(unittest.TestCase):
    def check(self, kind, used, expected):
        """Read a message of each of k, m, x and y to each door of h, if h has the used sorts."""
        for key, heard in expected:
            net, target = at_the_door(kind), ("h", "open", key)
            table = {host: (target,) for host in net}
            table["h"] = tuple(sorted([own_sort(net, "h"), *used]))
            self.assertIs(is_table(net, table), True)
            for host in "kmxy":
                found = read_message(net, table, host, target)
                source = source_sort(net, host, target)
                self.assertEqual(found, ("h", source) if host in heard else (None, None), (kind, key, host))

    def test_lent_by_source(self):
        used = (X, ("k", "open", "left"), ("m", "open", ("h", "open", None)))
        for letting, heard in (("any", "kmxy"), ("address", "kmx"), ("door", "kx")):
            self.check(("source", letting, "never"), used, [(None, heard)])
        for letting, heard in (("any", "kmxy"), ("address", ""), ("door", "")):
            self.check(("source", letting, "never"), (), [(None, heard)])

    def test_lent_by_address(self):
        used = (X, ("k", "open", "left"), ("m", "open", ("h", "open", "x")))
        for letting, heard in (
            ("any", [("x", "kmxy"), ("far", "kmxy"), ("dark", "kmxy"), ("y", "kmxy"), ("left", "kmxy")]),
            ("address", [("x", "x"), ("far", "k"), ("dark", "m"), ("y", ""), ("left", "")]),
            ("door", [("x", "x"), ("far", "k"), ("dark", ""), ("y", ""), ("left", "")]),
        ):
            self.check(("address", letting, "never"), used, heard)
        # h has another door at the address far, but not the one that k shows.
        self.check(("address", "door", "never"), (("k", "open", "x"),), [("far", "")])
        self.check(("address", "address", "never"), (("k", "open", "x"),), [("far", "k"), ("x", "")])

    def test_lent_by_door(self):
        near = ("k", "open", "left")
        used = (X, near, ("m", "open", ("left",)))
        for letting, heard in (
            ("any", [(X, "kmxy"), (near, "kmxy"), (("dark",), "kmxy"), (Y, "kmxy"), (("left",), "kmxy")]),
            ("address", [(X, "x"), (near, "k"), (("dark",), "m"), (Y, ""), (("left",), "")]),
            ("door", [(X, "x"), (near, "k"), (("dark",), ""), (Y, ""), (("left",), "")]),
        ):
            self.check(("door", letting, "never"), used, heard)
        self.check(("door", "address", "never"), (("k", "open", "x"),), [(near, ""), (("k", "open", "x"), "k")])
        self.check(("door", "door", "never"), (("k", "open", "x"),), [(near, ""), (("k", "open", "x"), "")])

    def test_through_no_box(self):
        for net in NETS:
            table = full_table(net)
            for host in net:
                for other in net.hosts_in(net.area_of(host)):
                    target = own_sort(net, host)
                    expected = (host, source_sort(net, other, target))
                    self.assertEqual(read_message(net, table, other, target), expected)

    def test_each_box_of_a_chain_looks(self):
        # a has used x; each box reads the target by what was lent up to it, and lets in from x alone.
        for at, letting in ((at, letting) for at in range(3) for letting in ("address", "door")):
            lettings = [letting if place == at else "any" for place in range(3)]
            boxes = {
                "p": ("q", ("source", lettings[0], "never")), "q": ("r", ("address", lettings[1], "never")),
                "r": ("open", ("door", lettings[2], "never")),
            }
            net = Net(boxes, {"a": "p", "x": "open", "y": "open"})
            for key, heard in ((X, "x"), (Y, "")):
                target = ("a", "open", key)
                table = {"a": (("a", "p", None), X), "x": (target,), "y": (target,)}
                # By source, the innermost box does not tell which target the door was lent for.
                expected = "x" if at == 0 else heard
                for host in "xy":
                    found = read_message(net, table, host, target)[0]
                    self.assertEqual(found, "a" if host in expected else None, (at, letting, key, host))

    def test_for_sorts_further_in(self):
        # A message within the area three: only the boxes from the host of the target out to it look.
        for key, heard in (("c", True), ("x", False)):
            target = ("a", "three", key)
            table = {host: () for host in STEPS}
            table["c"], table["a"] = (target,), (("a", "one", None), ("c", "three", None), X)
            self.assertEqual(read_message(STEPS, table, "c", target)[0], "a" if heard else None)
        table["c"], table["a"] = (target,), (("a", "one", None), X)
        self.assertEqual(read_message(STEPS, table, "c", target), (None, None))

    def test_turning(self):
        for turning in ("never", "lent", "inner"):
            for letting in ("any", "address", "door"):
                boxes = {"top": ("open", ("source", letting, turning)), "in": ("top", ("address", letting, "never"))}
                net = Net(boxes, {"h": "in", "k": "top", "x": "open"})
                own, inner, source = ("k", "open", None), ("h", "top", "top"), ("h", "open", "top")
                for used, lent in (((X,), letting == "any"), ((X, source), True)):
                    table = {"h": tuple(sorted([own, inner])), "k": tuple(sorted([("k", "top", None), *used])), "x": ()}
                    expected = {"never": (None, None), "lent": ("k", source) if lent else (None, None),
                                "inner": ("k", inner)}[turning]
                    self.assertEqual(read_message(net, table, "h", own), expected)

    def test_boxes_further_in_look_at_the_inner_source(self):
        for letting in ("any", "address", "door"):
            boxes = {"top": ("open", ("door", "door", "inner")), "in": ("top", ("address", letting, "never"))}
            net = Net(boxes, {"h": "in", "k": "top", "x": "open"})
            target = ("h", "open", X)
            for used, expected in ((("k", "top", None), letting == "any"), (X, letting == "any")):
                table = {"h": tuple(sorted([("h", "in", None), used])), "k": (target,), "x": ()}
                found = read_message(net, table, "k", target)
                self.assertEqual(found, ("h", ("k", "top", None)) if expected else (None, None), (letting, used))
        # By source, the box further in does not tell the targets apart, and finds k among them.
        for letting, seen in (("address", True), ("door", True)):
            net = Net({**net.boxes, "in": ("top", ("source", letting, "never"))}, net.hosts)
            for used, expected in ((("k", "top", None), seen), (X, False)):
                table = {"h": tuple(sorted([("h", "in", None), used])), "k": (target,), "x": ()}
                self.assertEqual(read_message(net, table, "k", target)[0], "h" if expected else None)

    def test_against_the_words(self):
        chance, found = random.Random(2), {}
        for net in NETS + tuple(random_nets(9, 60)):
            for table in some_tables(chance, net):
                messages = messages_of(net, table)
                for host, sort in chance.sample(messages, min(len(messages), 12)):
                    expected = read_by_the_words(net, table, host, sort)
                    self.assertEqual(read_message(net, table, host, sort), expected)
                    key = (expected[0] is None, is_single(net, sort), sort[1] == "open")
                    found[key] = found.get(key, 0) + 1
        self.assertGreater(min(found.values()), 50)
        self.assertEqual(len(found), 8)

    def test_against_the_words_on_wide_nets(self):
        chance = random.Random(4)
        for at, kind in enumerate(KINDS):
            net = wide_net(kind, KINDS[-at])
            table = least_table(net)
            messages = messages_of(net, table)
            for host, sort in chance.sample(messages, min(len(messages), 15)):
                expected = read_by_the_words(net, table, host, sort)
                self.assertEqual(read_message(net, table, host, sort), expected)

    def test_errors_in_their_order(self):
        table, target = least_table(PAIR), ("help", "open", None)
        for value in NO_NETS:
            refused(self, InvalidNet, read_message, value, None, None, None)
        for value in ODD + ({**table, "a": (0,)}, {**table, "z": ()}, least_table(CITY)):
            refused(self, InvalidTable, read_message, PAIR, value, "z", None)
        for value in ODD + ("z", "left", "open"):
            unknown(self, value, read_message, PAIR, table, value, None)
        for value in ODD + ("help", ("help", "left", None), ("z", "open", None), ("a", "open", "help")):
            refused(self, InvalidSort, read_message, PAIR, table, "a", value)
        for host, sort in (("a", ("b", "right", None)), ("help", ("a", "left", None)), ("b", ("a", "left", None))):
            refused(self, InvalidOperation, read_message, PAIR, table, host, sort)
        # A host may have sorts of other areas, but cannot send a message to them.
        wide = full_table(PAIR)
        for host, sort in (("a", ("b", "right", None)), ("help", ("a", "left", None))):
            refused(self, InvalidOperation, read_message, PAIR, wide, host, sort)
        refused(self, InvalidOperation, read_message, PAIR, first_table(PAIR), "a", ("b", "open", None))
        self.assertEqual(read_message(PAIR, first_table(PAIR), "a", target), ("help", ("a", "open", None)))


class Rounds(unittest.TestCase):
    def test_first_table(self):
        self.assertEqual(first_table(CITY), {
            "a": (("a", "left", None), ("help", "open", None)), "b": (("b", "right", None), ("help", "open", None)),
            "c": (("c", "right", None), ("help", "open", None)), "help": (("help", "open", None),),
        })
        for net in random_nets(13, 40):
            live = LiveNet(net)
            table = {host: tuple(sorted([own_sort(net, door[0]) for door in live.knows(host)])) for host in net}
            self.assertEqual(first_table(net), table)

    def test_round_by_round(self):
        help_, a, b = ("help", "open", None), ("a", "open", None), ("b", "open", None)
        self.assertEqual(list(rounds(PAIR)), [
            {"a": (("a", "left", None), help_), "b": (("b", "right", None), help_), "help": (help_,)},
            {"a": (("a", "left", None), help_), "b": (("b", "right", None), help_), "help": (a, b, help_)},
            {"a": (("a", "left", None), a, b, help_), "b": (a, b, ("b", "right", None), help_), "help": (a, b, help_)},
        ])

    def test_a_teller_tells_what_it_had_at_the_beginning(self):
        net = line(tellers=("a", "b", "c"))
        a, b, c = [own_sort(net, host) for host in "abc"]
        self.assertEqual(list(rounds(net)), [
            {"a": (a, b), "b": (b, c), "c": (c,)}, {"a": (a, b), "b": (a, b, c), "c": (b, c)},
            {"a": (a, b, c), "b": (a, b, c), "c": (a, b, c)},
        ])

    def test_all_go_out_before_any_is_let_in(self):
        # x and y know the doors of each other after the second round, and let each other in in the third one.
        kind = ("source", "door", "never")
        net = PAIR.with_kind("left", kind).with_kind("right", kind).with_teller("a").with_host("c", "left")
        net = net.with_known("c", "a").with_known("a", "c")
        found = list(rounds(net))
        self.assertEqual([("b", "open", None) in table["c"] for table in found], [False, False, False, True])
        live = LiveNet(net)
        for _ in range(2):
            live.round()
        self.assertNotIn("b", live.heard("a"))
        live.round()
        self.assertEqual(["b" in live.heard("a"), "a" in live.heard("b")], [True, True])

    def test_what_is_lost_may_arrive_later(self):
        a, b = ("a", "open", None), ("b", "open", None)
        tables = list(rounds(LATE))
        self.assertEqual([a in table["b"] for table in tables], [False, False, False, True, True])
        self.assertEqual([b in table["a"] for table in tables], [False, False, False, False, True])
        found = [read_message(LATE, table, "b", a) for table in tables[3:]]
        self.assertEqual(found, [(None, None), ("a", b)])

    def test_no_round_that_adds_a_sort(self):
        net = Net({}, {"a": "open", "b": "open"})
        self.assertEqual(list(rounds(net)), [first_table(net)])
        self.assertEqual(least_table(net), first_table(net))

    def test_against_live_rounds(self):
        strict = [kind for kind in KINDS if kind[1] == "door"]
        for net in NETS + tuple(random_nets(19, 250)) + tuple(random_nets(20, 100, boxes=3, hosts=5, choice=strict)):
            self.check(net, 500)

    def test_against_live_rounds_of_wide_nets(self):
        for at, kind in enumerate(KINDS):
            for other in (kind, KINDS[-at]):
                self.check(wide_net(kind, other), 300)

    def check(self, net, most):
        """After each round, hosts know doors of just the sorts of the table; later rounds add none."""
        live, tables = LiveNet(net), list(rounds(net))
        for table in tables + tables[-1:]:
            found = {host: tuple(sorted({live_sort(live, door) for door in live.knows(host)})) for host in net}
            self.assertEqual(found, table)
            if len(live) > most:
                break
            live.round()

    def test_each_round_adds_what_its_messages_show(self):
        for net in random_nets(23, 60):
            tables = list(rounds(net))
            for at, table in enumerate(tables):
                after = {host: set(table[host]) for host in net}
                for host, sort in messages_of(net, table):
                    hearer, source = read_by_the_words(net, table, host, sort)
                    if hearer is not None:
                        after[hearer].add(source)
                        after[hearer].update(table[host] if host in net.tellers else ())
                expected = {host: tuple(sorted(after[host])) for host in net}
                self.assertEqual(tables[at + 1] if at + 1 < len(tables) else table, expected)

    def test_least_table(self):
        for net in NETS + tuple(random_nets(29, 60)):
            tables = list(rounds(net))
            self.assertEqual(least_table(net), tables[-1])
            self.assertEqual([is_closed(net, table) for table in tables], [False] * (len(tables) - 1) + [True])
            for table in tables:
                self.assertEqual(list(table), list(net))

    def test_other_own_doors_add_no_sorts(self):
        chance = random.Random(7)
        for net in random_nets(37, 80):
            live, table = LiveNet(net), least_table(net)
            for _ in range(40):
                host = chance.choice(tuple(net))
                can = [door for door in live.knows(host) if net.area_of(door[0]) in net.areas_of(host)]
                live.send(host, chance.choice(can), own=chance.choice((0, 1, 2)))
            for host in net:
                self.assertLessEqual({live_sort(live, door) for door in live.knows(host)}, set(table[host]))

    def test_looser_nets_have_no_fewer_hosts_heard(self):
        for net in random_nets(39, 40):
            least = least_table(net)
            for host in net:
                more = least_table(net.with_teller(host))
                self.assertEqual([one for one in net if not set(least[one]) <= set(more[one])], [])

    def test_tables_are_new(self):
        least_table(PAIR)["a"] = ()
        for table in rounds(PAIR):
            table.clear()
        first_table(PAIR).clear()
        self.assertEqual([len(table) for table in rounds(PAIR)], [3, 3, 3])

    def test_errors_come_with_the_first_value(self):
        for value in NO_NETS:
            refused(self, InvalidNet, next, rounds(value))
            refused(self, InvalidNet, first_table, value)
            refused(self, InvalidNet, least_table, value)


if __name__ == "__main__":
    unittest.main()
