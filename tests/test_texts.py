"""Texts of nets, talks, sorts, tables and grids, written and read (stage 17, [17.1], [17.2])."""

import random
import re
import unittest

from lentdoors.base.nets import Net
from lentdoors.errors import (
    InvalidNet, InvalidOperation, InvalidSort, InvalidTable, InvalidTalk, ParseError,
)
from lentdoors.know.hearing import hearing_paper
from lentdoors.know.tables import first_table, least_table
from lentdoors.live.talks import Talk
from lentdoors.texts.reading import read_grid, read_net, read_sort, read_table, read_talk
from lentdoors.texts.writing import grid_text, net_text, sort_text, table_text, talk_text
from samples import CITY, DEEP, LATE, MEET, NO_NETS, ODD, OPEN, PAIR, TIGHT, nested, random_nets
from test_hearing import pairs
from test_relations import random_talk
from test_sorts import STEPS, all_sorts, refused
from test_tables import full_table

NETS = (PAIR, TIGHT, CITY, DEEP, LATE, STEPS, Net({}, {"a": "open"}))
NAME = "[a-z]{1,8}"
FLAT = f"{NAME}@{NAME}(?:\\({NAME}\\))?"
SORT = f"{NAME}@{NAME}(?:\\((?:\\*?{NAME}|{FLAT})\\))?"
BOX_LINE = f"box {NAME} in {NAME} (?:source|address|door) (?:any|address|door) (?:never|lent|inner)"
LINES = {
    "net": f"{BOX_LINE}|host {NAME} in {NAME}(?: teller)?|known {NAME} {NAME}",
    "talk": f"{NAME} to (?:{NAME}|#(?:0|[1-9][0-9]*))",
    "table": f"{NAME} has (?:nothing|{SORT})",
}
READ = {"net": read_net, "talk": read_talk, "table": read_table}
WRITE = {"net": net_text, "talk": talk_text, "table": table_text}
NO_STRINGS = tuple([value for value in ODD if not isinstance(value, str)])
NO_SORT_TEXTS = (
    "", "a", "a@", "@b", "a@b@c", "a @b", "a@b ", " a@b", "a@b(", "a@b)", "a@b()", "a@b(c", "a@bc)", "a@b(c))",
    "a@b((c))",
    "a@b(c)d", "a@b(*)", "a@b(**c)", "a@b*(c)", "*a@b", "a@b(*c@d)", "a@b(c@d(*e))", "a@b(c@d(e@f))",
    "a@b(c@d(e@f(g)))",
    "a@b(c@)", "a@b(@d)", "a@b(c@d()", "a@b(c@d(e)", "a@b(c@d(e)))", "A@b", "a@B", "a@b(C)", "a@b(1)", "a1@b", "a@b\n",
    "\na@b", "a@b(c\n)", "a@b(c) ", "a@b (c)", "a@b( c)", "a@b(c d)", "a@b(* c)", "a@abcdefghi", "abcdefghi@a",
    "a@b(abcdefghi)",
    "a@b(*abcdefghi)", "a@b(c@abcdefghi)", "a@b(None)", "nothing", "a@b(c,)", "a@b(c)(d)", "(a@b)", "a(b)@c", "a@b{c}",
    "a@b[c]",
    "a@b(" * 3000, "a@b(" * 3000 + "c" + ")" * 3000, ")" * 5000, "(" * 5000, "a@" * 4000,
)


def outcome(call, *arguments):
    """The result of a call, or the line of its ParseError."""
    try:
        return ("value", call(*arguments))
    except ParseError as error:
        return ("line", error.line)


def failing(case, line, call, text):
    with case.assertRaises(ParseError) as caught:
        call(text)
    case.assertEqual((type(caught.exception), caught.exception.line), (ParseError, line), str(text)[:200])


def expected_line(word, text):
    """The first line that is wrong by itself or beside earlier ones, None if there is none."""
    lines = text.split("\n") if text else []
    for at, line in enumerate(lines):
        if not re.fullmatch(LINES[word], line):
            return at
        if word != "talk" and line in lines[:at]:
            return at
        start = line.split(" ")[:2]
        if word == "net" and start[0] in ("box", "host") and start in [one.split(" ")[:2] for one in lines[:at]]:
            return at
        index = line.rpartition("#")[2] if "#" in line else "0"
        if word == "talk" and "#" in line and (len(index) > 5 or int(index) >= at):
            return at
    return None


def changed(chance, text):
    """The text with one change of some characters, words or lines."""
    lines = text.split("\n")
    at = chance.randrange(len(lines))
    words = lines[at].split(" ")
    turn = chance.randrange(9)
    if turn == 0:
        lines.insert(chance.randrange(len(lines) + 1), lines[at])
    elif turn == 1:
        del lines[at]
    elif turn == 2:
        lines.insert(at, chance.choice(["", " ", "host z in open", "a to b", "a to #0", "z has nothing", "known a b",
            lines[at] + " "]))
    elif turn == 3:
        chance.shuffle(lines)
    elif turn == 4:
        words.insert(chance.randrange(len(words) + 1), chance.choice(["", "a", "teller", "open", "#1", "in"]))
    elif turn == 5:
        del words[chance.randrange(len(words))]
    elif turn == 6:
        words[chance.randrange(len(words))] = chance.choice(["a", "open", "Open", "abcdefghi", "#0", "#01", "#+1",
            "nothing", "door", "a@b"])
    else:
        place = chance.randrange(len(text) + 1)
        return text[:place] + chance.choice(["", " ", "\n", "a", "A", "#", "0", "@", "(", ")",
            "*"]) + text[place + turn - 7:]
    if turn in (4, 5, 6):
        lines[at] = " ".join(words)
    return "\n".join(lines)


class Sorts(unittest.TestCase):
    SORTS = {
        "a@open": ("a", "open", None), "a@b(c)": ("a", "b", "c"), "a@b(*c)": ("a", "b", ("c",)),
        "open@a": ("open", "a", None),
        "a@b(c@d)": ("a", "b", ("c", "d", None)), "a@b(c@d(e))": ("a", "b", ("c", "d", "e")),
        "a@a(a@a(a))": ("a", "a", ("a",) * 3),
        "abcdefgh@abcdefgh(abcdefgh@abcdefgh(abcdefgh))": ("abcdefgh", "abcdefgh", ("abcdefgh",) * 3),
        "nothing@has(*open)": ("nothing", "has", ("open",)),
    }

    def test_texts(self):
        for text, sort in self.SORTS.items():
            self.assertEqual([sort_text(sort), read_sort(text)], [text, sort])

    def test_all_sorts_of_nets(self):
        for net in NETS + tuple(random_nets(601, 40)):
            for sort in all_sorts(net):
                self.assertRegex(sort_text(sort), f"\\A{SORT}\\Z")
                self.assertEqual(read_sort(sort_text(sort)), sort)

    def test_wrong_texts(self):
        for text in NO_SORT_TEXTS + NO_STRINGS + tuple([value for value in ODD if isinstance(value, str)]):
            with self.assertRaises(ParseError) as caught:
                read_sort(text)
            self.assertEqual(caught.exception.line, 0)

    def test_each_character_changed(self):
        for text in self.SORTS:
            for at in range(len(text) + 1):
                for sign in ("", "a", "@", "(", ")", "*", " ", "A", "\n", "("):
                    for other in (text[:at] + sign + text[at:], text[:at] + sign + text[at + 1:]):
                        if re.fullmatch(SORT, other):
                            self.assertEqual(sort_text(read_sort(other)), other)
                        else:
                            failing(self, 0, read_sort, other)

    def test_no_sorts(self):
        self.assertEqual(sort_text(("never", "address", "source")), "never@address(source)")
        for value in tuple([value for value in ODD if value != ("never", "address", "source")]) + (
            "a", ("a", "b"), ("a", "b", "C"), ("a", "b", 0), ("a", "b", True), ("A", "b", None), ("a", None, None),
            ("a", "b", ()),
            ("a", "b", ("C", "d", None)), ("A", "b", ("c",)), ("a", "B", ("c",)), ("A", "b", ("c", "d", None)),
            ("a", "B", ("c", "d", None)), ("a", "b", ("c", "D", "e")), (None, "b", "c"), ("a", None, "c"),
            ("a", "b", ("c", "d")), ("a", "b", ("C",)), ("a", "b", (None,)), ("a", "b", ("c", "d", ("e",))),
            ["a", "b", None],
            ("a", "b", ("c", "d", ("e", "f", None))), ("a", "b", ["c"]), ("a", "b", None, None),
            ("a", "b", ("c", "d", 0)),
            ("a", "b", ("c", 0, None)), ("a", "abcdefghi", None), ("a", "b", (("c",),)), ("a", "b", nested("c", 8)),
            (1, "b", None),
        ):
            refused(self, InvalidSort, sort_text, value)


class Written(unittest.TestCase):
    def test_nets(self):
        self.assertEqual(net_text(CITY), "\n".join([
            "box left in open source door never", "box right in open address any lent", "host a in left",
            "host b in right",
            "host c in right teller", "host help in open teller", "known a help", "known b help", "known c help",
        ]))
        self.assertEqual(net_text(Net({}, {"a": "open"})), "host a in open")
        net = Net({"z": ("open", OPEN), "y": ("z", OPEN)}, {"c": "y", "b": "z"}, tellers=("b", "c"),
            known=(("c", "b"),))
        self.assertEqual(net_text(net).split("\n"), [
            "box y in z source address never", "box z in open source address never", "host b in z teller",
            "host c in y teller",
            "known c b",
        ])

    def test_talks(self):
        self.assertEqual(talk_text(MEET).split("\n"), [
            "a to help", "b to help", "help to #0", "a to #1", "help to #1", "b to #0",
        ])
        self.assertEqual([talk_text(Talk()), talk_text(Talk(("a", ("own", "open"))))], ["", "a to open"])
        long = Talk(*[("a", ("own", "b"))] * 12, ("c", ("shown", 11)))
        self.assertEqual(talk_text(long).split("\n")[12], "c to #11")

    def test_tables(self):
        table = {"b": (("a", "b", None), ("a", "c", "d")), "a": (), "c": (("x", "y", ("z",)),
            ("x", "y", ("z", "y", None)))}
        self.assertEqual(table_text(table).split("\n"), [
            "a has nothing", "b has a@b", "b has a@c(d)", "c has x@y(*z)", "c has x@y(z@y)",
        ])
        self.assertEqual([table_text({}), table_text({"open": ()})], ["", "open has nothing"])

    def test_errors(self):
        for value in NO_NETS:
            refused(self, InvalidNet, net_text, value)
        for value in ODD + (MEET.messages(), "a to b"):
            if not isinstance(value, Talk):
                refused(self, InvalidTalk, talk_text, value)
        sort = ("a", "b", None)
        for value in ODD + (
            {"a": None}, {"a": [sort]}, {"a": (sort, sort)}, {"A": ()}, {0: ()}, {("a",): ()}, {"a": sort},
            {"a": (sort, None)},
            {"a": (("a", "b", ("c",)),) * 2}, {"a": (("a", "b", "c"),) * 2}, {"a": (("a", "b", ("c", "d", "e")),) * 2},
            {"a": (("a", "c", None), sort)}, {"a": (("a", "b", ("c", "e", None)), ("a", "b", ("c", "d", None)))},
            {"a": (("b", "b", None), sort)}, {"a": (sort, ("a", "b", "c"))}, {"a": (("a", "b", "c"), sort)},
            {"a": (("a", "b", ("c",)), ("a", "b", "d"))}, {"a": (("a", "b", "c"), ("a", "b", ("d",)))},
            {"a": (), "b": 0},
            {"a": (("a", "b", ("c", "d", None)), ("a", "b", ("c", "d", "e")))}, (("a", ()),),
            {"a": (("a", "b", ("c", "d", ("e",))),)},
            {"a": (("a", "b", ("c", "d", "e")), ("a", "b", ("c", "d", None)))},
            {"a": (("a", "b", ("d",)), ("a", "b", ("c",)))},
        ):
            if value != {}:
                refused(self, InvalidTable, table_text, value)


class Read(unittest.TestCase):
    def values(self):
        chance = random.Random(3)
        for net in NETS + tuple(random_nets(603, 60)):
            yield "net", net
            for table in (first_table(net), least_table(net)):
                yield "table", table
            talks = [random_talk(chance, net, 6)]
            talks.extend([shown for word, shown in [hearing_paper(net, *pair) for pair in pairs(net)[:3]]
                if word == "talk"])
            for talk in talks:
                yield "talk", talk

    def test_read_back(self):
        chance = random.Random(4)
        for word, value in self.values():
            text = WRITE[word](value)
            self.assertEqual(READ[word](text), value)
            self.assertIsNone(expected_line(word, text))
            self.assertEqual(text.endswith("\n"), False)
            if word != "talk":
                lines = text.split("\n")
                chance.shuffle(lines)
                found = READ[word]("\n".join(lines))
                self.assertEqual(found, value)
                if word == "table":
                    self.assertEqual(list(found), sorted(found))
        for net in (TIGHT, STEPS, CITY):
            self.assertEqual(read_table(table_text(full_table(net))), full_table(net))

    def test_changed_texts(self):
        chance, seen = random.Random(5), set()
        for word, value in self.values():
            for _ in range(12):
                text = changed(chance, WRITE[word](value) or "a")
                line = expected_line(word, text)
                found = outcome(READ[word], text)
                if line is not None:
                    self.assertEqual(found, ("line", line), text)
                elif found[0] == "line":
                    self.assertEqual(found[1], len(text.split("\n")) if text else 0)
                    self.assertNotEqual(word, "talk")
                else:
                    # Its lines are those of its value, in the same order if it is a talk.
                    order = list if word == "talk" else sorted
                    lines = WRITE[word](found[1]).split("\n")
                    self.assertEqual(order(lines), order(text.split("\n")))
                seen.add((word, line is None, found[0]))
        self.assertEqual(len(seen), 8)

    def test_no_strings(self):
        for value in NO_STRINGS:
            for read in (read_net, read_talk, read_table, read_sort, read_grid):
                failing(self, 0, read, value)

    def test_no_lines(self):
        failing(self, 0, read_net, "")
        self.assertEqual([read_talk(""), read_table("")], [Talk(), {}])
        for table in ({"a": ()}, {"a": (), "b": (("a", "b", None),), "open": ()}):
            self.assertEqual(read_table(table_text(table)), table)

    def test_lines_that_are_no_net_together(self):
        for text in (
            "host a in left", "box p in q source any never\nhost a in open",
            "box p in p source any never\nhost a in p", "known a b",
            "host a in open\nknown a b", "host a in open\nknown a a", "box a in open source any never\nhost a in open",
            "box p in open source any never", "host open in open", "box open in open source any never\nhost a in open",
            "\n".join([f"host {name} in open" for name in "abcdefg"]),
            "box p in q source any never\nbox q in p door any never\nhost a in p",
            "\n".join([f"box {name} in open source any never" for name in "pqrst"] + ["host a in open"]),
            "box p in open source any never\nhost a in open\nhost b in p\nknown a b",
        ):
            failing(self, text.count("\n") + 1, read_net, text)

    def test_wrong_lines_of_a_net(self):
        good = net_text(CITY).split("\n")
        for line in (
            "", " ", "box", "box p", "box p in open", "box p in open source any", "box p in open source any never ",
            "Box p in open source any never",
            "box p at open source any never", "box p in open any source never", "box p in open source any never lent",
            "box P in open source any never",
            "box p  in open source any never", "host x", "host x in", "host x open", "host x in open tells",
            "host x in open teller teller",
            "host x in open ", " host x in open", "host x in 0", "host abcdefghi in open", "host x in abcdefghi",
            "known x", "known x y z",
            "known x 0", "known X y", "teller x", "x to y", "x has nothing", "host x in Open", "host\tx in open",
        ):
            for at in range(len(good) + 1):
                failing(self, at, read_net, "\n".join(good[:at] + [line] + good[at:]))

    def test_lines_twice(self):
        good = net_text(CITY).split("\n")
        for at, line in enumerate(good):
            for place in range(at + 1, len(good) + 1):
                failing(self, place, read_net, "\n".join(good[:place] + [line] + good[place:]))
        failing(self, 1, read_net, "host a in open\nhost a in open teller")
        failing(self, 1, read_net, "host a in open\nhost a in left\nbad")
        failing(self, 1, read_net, "box p in open source any never\nbox p in q door any never\nhost a in p")
        # A box and a host of one name have other first words, and pairs may have the first name in common.
        failing(self, 2, read_net, "box a in open source any never\nhost a in open")
        self.assertEqual(len(read_net("host a in open\nhost b in open\nhost c in open\nknown a b\nknown a c").known), 2)

    def test_the_first_wrong_line_counts(self):
        failing(self, 1, read_net, "host a in left\nbad\nhost a in left\nbad")
        failing(self, 2, read_net, "host a in left\nhost b in left\nhost a in left\nbad")
        failing(self, 0, read_talk, "a to #0\nb to")
        failing(self, 1, read_table, "a has nothing\na has nothing\nb has")

    def test_wrong_lines_of_a_talk(self):
        good = talk_text(MEET).split("\n")
        for line in (
            "", " ", "a", "a to", "to a", "a to b c", "a  to b", "a to b ", " a to b", "A to b", "a to B", "a to 0",
            "a to #", "a to #-1", "a to #+1",
            "a to #01", "a to #00", "a to # 0", "a to #0 ", "a to ##0", "a to #a", "a to #1a", "abcdefghi to b",
            "a to abcdefghi", "a at b",
            "a to #6", "a to #7", "a to #" + "9" * 5000, "a to #" + "0" * 5000, "a to #1" + "0" * 4999, "a to #0x1",
            "a to #1_0", "a to #1.0",
        ):
            self.assertEqual(len(good), 6)
            failing(self, 6, read_talk, "\n".join(good + [line]))
            failing(self, 6, read_talk, "\n".join(good + [line] + good))
        longer = "\n".join(["a to b"] * 12)
        for index in (0, 1, 9, 10, 11):
            self.assertEqual(read_talk(longer + f"\na to #{index}")[12], ("a", ("shown", index)))
        for word in ("01", "00", "012", "1a", "a1", "12", "13", "-1", "+1", " 1", "1 "):
            failing(self, 12, read_talk, longer + f"\na to #{word}\na to b")
        for at in range(6):
            failing(self, at, read_talk, "\n".join(good[:at] + [f"a to #{at}"] + good[at:]))
        self.assertEqual(read_talk("a to b\na to b\nb to #1\nb to #0")[3], ("b", ("shown", 0)))
        self.assertEqual(read_talk("open to open\na to #0")[0], ("open", ("own", "open")))

    def test_long_talks(self):
        line = "a to b"
        self.assertEqual(len(read_talk("\n".join([line] * 6000))), 6000)
        failing(self, 6001, read_talk, "\n".join([line] * 6001))
        failing(self, 6500, read_talk, "\n".join([line] * 6500))
        failing(self, 6400, read_talk, "\n".join([line] * 6400 + ["bad"]))
        failing(self, 6001, read_talk, "\n".join([line] * 6001 + ["a to #6001"]))
        self.assertEqual(read_talk("\n".join([line] * 5999 + ["a to #5998"]))[5999], ("a", ("shown", 5998)))

    def test_wrong_lines_of_a_table(self):
        good = ["a has a@open", "b has nothing", "a has b@open"]
        for line in (
            "", " ", "a", "a has", "a has nothing ", " a has nothing", "a  has nothing", "a had nothing",
            "A has nothing", "a has Nothing", "a has none",
            "a has a", "a has a@b(c) d", "a has nothing nothing", "a has (a@b)", "a has a@open,b@open",
            "abcdefghi has nothing", "a nothing",
        ) + tuple([f"a has {text}" for text in NO_SORT_TEXTS if len(text) < 100 and "\n" not in text
        and text != "nothing"]):
            for at in range(4):
                failing(self, at, read_table, "\n".join(good[:at] + [line] + good[at:]))
        for at, line in enumerate(good):
            failing(self, 3, read_table, "\n".join(good + [line]))

    def test_lines_that_are_no_table_together(self):
        for lines in (
            ["a has nothing", "a has a@open"], ["a has a@open", "b has nothing", "a has nothing"],
            ["a has b@open", "a has b@open(c)"],
            ["a has b@open(c)", "a has b@open(*c)"], ["a has b@open(c)", "a has b@open(c@d)"],
            ["a has b@open(c@d)", "a has b@open(c@d(e))"],
            ["a has b@open(*c)", "a has b@open"], ["a has z@open", "b has nothing", "a has b@open(c@d(e))",
            "a has b@open(c@d)"],
        ):
            failing(self, len(lines), read_table, "\n".join(lines))
            failing(self, len(lines), read_table, "\n".join(lines[::-1]))
        found = read_table(
            "a has b@open(*c)\nb has b@open\na has b@open(c@d)\na has b@open(c@e(f))\na has b@p(x)\na has c@open")
        self.assertEqual(found, {
            "a": (("b", "open", ("c",)), ("b", "open", ("c", "d", None)), ("b", "open", ("c", "e", "f")),
            ("b", "p", "x"), ("c", "open", None)),
            "b": (("b", "open", None),),
        })
        self.assertEqual(read_table(table_text(found)), found)


class Grids(unittest.TestCase):
    def test_text(self):
        text = grid_text(("a", "bcdefghi", "open"), (("a", "open"), ("bcdefghi", "bcdefghi"), ("open", "a")))
        self.assertEqual(text.split("\n"), [
            "                a bcdefghi     open", "a               .        .        x",
            "bcdefghi        .        x        .",
            "open            x        .        .",
        ])
        self.assertEqual([grid_text((), ()), grid_text(("a",), ())], [" " * 8, " " * 16 + "a\na" + " " * 15 + "."])
        self.assertEqual(grid_text(("a", "b"), (("b", "a"),), mark=".", blank="x").split("\n")[2],
            "b" + " " * 15 + "." + " " * 8 + "x")
        self.assertEqual(grid_text(("a",), (("a", "a"),), mark="0").split("\n")[1][-1], "0")
        self.assertEqual(grid_text(("a",), (), blank="#").split("\n")[1][-1], "#")

    def test_read_back(self):
        chance = random.Random(6)
        for many in range(9):
            names = tuple(sorted({"".join([chance.choice("abcz") for _ in range(chance.randint(1,
                8))]) for _ in range(many)}))
            every = [(one, two) for one in names for two in names]
            for share in (0, 0.3, 0.8, 1):
                marked = tuple([pair for pair in every if chance.random() < share])
                text = grid_text(names, marked)
                self.assertEqual(read_grid(text), (names, marked))
                lines = text.split("\n")
                self.assertEqual([len(line) for line in lines], [8 + 9 * len(names)] * (len(names) + 1))
                for at, line in enumerate(lines[1:]):
                    self.assertEqual(line[:8].rstrip(" "), names[at])
                    self.assertEqual([line[16 + 9 * place] == "x" for place in range(len(names))],
                                     [(names[at], other) in marked for other in names])

    def test_each_character_changed(self):
        names, marked = ("a", "bc", "zzzzzzzz"), (("a", "bc"), ("bc", "a"), ("zzzzzzzz", "zzzzzzzz"))
        text = grid_text(names, marked)
        lines = text.split("\n")
        for at in range(len(text)):
            line = text[:at].count("\n")
            for sign in " axX.\n":
                other = text[:at] + sign + text[at + 1:]
                if other != text:
                    self.check(other, line)
            self.check(text[:at] + text[at + 1:], line)
            self.check(text[:at] + " " + text[at:], line)
        for at in range(len(lines)):
            self.check("\n".join(lines[:at] + lines[at + 1:]), at)
            self.check("\n".join(lines[:at + 1] + lines[at:]), at + 1)
            self.check("\n".join(lines[:at] + [""] + lines[at:]), at)
            self.check("\n".join(lines[:at]), at)
            self.check("\n".join(lines[:at] + [lines[at] + "        x"] + lines[at + 1:]), at)
            self.check("\n".join(lines[:at] + [lines[at][:-9]] + lines[at + 1:]), at)
            self.check("\n".join(lines[:at] + [lines[at][:-1]] + lines[at + 1:]), at)

    def check(self, text, line):
        """A text with a change at this line is read as a grid, or is wrong there or at a later line."""
        word, found = outcome(read_grid, text)
        if word == "value":
            self.assertEqual(grid_text(*found), text)
            return
        # No line before the changed one is wrong, and some grid begins with all lines before the wrong one.
        self.assertGreaterEqual(found, line)
        lines = text.split("\n") if text else []
        self.assertLessEqual(found, len(lines))
        if found > 0:
            names, marked = self.completed(lines[:found])
            self.assertEqual(grid_text(names, marked).split("\n")[:found], lines[:found])
            if found < len(lines) and found <= len(names):
                self.assertIsNone(re.fullmatch(re.escape(names[found - 1].ljust(8)) + "(        [x.]){%d}" % len(
                    names), lines[found]))
        elif lines:
            names = re.findall(f"\\b{NAME}\\b", lines[0])
            self.assertNotEqual((" " * 8 + "".join([name.rjust(9) for name in names]), sorted(set(names))),
                (lines[0], names))

    def completed(self, lines):
        """The names and pairs of a grid that begins with these lines."""
        names = tuple(lines[0].split())
        rows = {names[at]: line for at, line in enumerate(lines[1:])}
        marked = [(one, two) for one in rows for place, two in enumerate(names) if rows[one][16 + 9 * place] == "x"]
        return names, tuple(marked)

    def test_wrong_lines(self):
        for text in ("", " ", " " * 7, " " * 9, "a", " " * 8 + "a", " " * 8 + "a".ljust(9), " " * 8 + "A".rjust(9),
                " " * 8 + "1".rjust(9),
                     " " * 8 + "b".rjust(9) + "a".rjust(9), " " * 8 + "a".rjust(9) * 2, "\n" + " " * 8, " " * 17,
                     " " * 8 + "a b".rjust(9),
                     " " * 8 + "abcdefghi", " " * 7 + "a".rjust(10) + " "):
            failing(self, 0, read_grid, text)
        head = " " * 8 + "a".rjust(9) + "b".rjust(9)
        row = "a".ljust(8) + ".".rjust(9) + "x".rjust(9)
        for line in ("", row[:-1], row + " ", row + "x".rjust(9), row[:-9], row.replace("x", "X"),
                row.replace(".", " "), row.replace("a", "b"),
                     row.replace("a", " "), " " + row, row.replace("        x", "x        ")):
            failing(self, 1, read_grid, head + "\n" + line)
            failing(self, 1, read_grid, "\n".join([head, line, row, row]))
        failing(self, 1, read_grid, head)
        failing(self, 2, read_grid, head + "\n" + row)
        last = row.replace("a", "b")
        self.assertEqual(read_grid("\n".join([head, row, last])), (("a", "b"), (("a", "b"), ("b", "b"))))
        for more in ("", last, " ", " " * 8):
            failing(self, 3, read_grid, "\n".join([head, row, last, more]))
            failing(self, 1, read_grid, " " * 8 + "\n" + more)
        self.assertEqual(read_grid(" " * 8), ((), ()))

    def test_marks(self):
        self.assertEqual(grid_text(("a",), (), mark=".", blank="x"), grid_text(("a",), (("a", "a"),)))
        for value in ODD + ("", " ", "\n", "xx", ("x",), ["x"], 1):
            if value == "A":
                continue
            refused(self, InvalidOperation, grid_text, ("a",), (), mark=value)
            refused(self, InvalidOperation, grid_text, ("a",), (), blank=value)
        refused(self, InvalidOperation, grid_text, ("a",), (), mark=".")
        refused(self, InvalidOperation, grid_text, ("a",), (), blank="x")
        refused(self, InvalidOperation, grid_text, ("a",), (), mark="#", blank="#")

    def test_errors(self):
        for value in ODD + (["a"], "a", ("b", "a"), ("A",), ("abcdefghi",), ("a", None), {"a": 1}):
            if value not in ((), ("a",)):
                refused(self, InvalidOperation, grid_text, value, ())
        for value in ODD + ([("a", "b")], ("a", "b"), (("a", "z"),), (("z", "a"),), (("b", "a"), ("a", "b")),
                (("a", "b"),) * 2, (("a", "b", "a"),),
                            (["a", "b"],), (("a", None),), (("a",),), (("a", ["b"]),), ((("a", "b"), "a"),)):
            if value != ():
                refused(self, InvalidOperation, grid_text, ("a", "b"), value)
        self.assertEqual(grid_text(("a", "b"), (("a", "a"), ("b", "b"))).count("x"), 2)

    def test_many_names(self):
        names = tuple(sorted([one + two for one in "abcdefgh" for two in "abcdefgh"]))
        every = tuple([(one, two) for one in names for two in names])
        self.assertEqual(read_grid(grid_text(names, every)), (names, every))


if __name__ == "__main__":
    unittest.main()
