"""A desk (stage 18, [18.1] to [18.3])."""

import random
import time
import unittest

from lentdoors.base.kinds import LENDINGS, LETTINGS, TURNINGS, is_name, kinds
from lentdoors.base.nets import Net
from lentdoors.desk.desk import MAX_CHANGES, MAX_WORKS, Desk
from lentdoors.errors import (
    InvalidCommand, InvalidKind, InvalidOperation, NothingToUndo, ParseError, TooMany, UnknownName,
)
from lentdoors.know.hearing import hears, is_hearing_paper, talk_to
from lentdoors.live.talks import Talk, carried, fits, hearers
from lentdoors.texts.reading import read_net, read_talk
from lentdoors.texts.writing import net_text, talk_text
from samples import CITY, DEEP, KINDS, MEET, ODD, PAIR, STRICT, TIGHT, random_net, random_nets
from test_hearing import pairs
from test_relations import random_talk
from test_sorts import refused

NEW = "new x " + net_text(PAIR).replace("\n", "; ")
TALK = [f"send x {line}" for line in talk_text(MEET).split("\n")]
ERRORS = (InvalidCommand, InvalidKind, InvalidOperation, NothingToUndo, ParseError, TooMany, UnknownName)


def told(error):
    """What an error keeps."""
    names = ("line", "name", "many", "limit", "value")
    return (type(error).__name__,) + tuple([getattr(error, name) for name in names if hasattr(error, name)])


def outcome(call, *arguments):
    """The result of a call, or its error."""
    try:
        return call(*arguments)
    except ERRORS as error:
        return told(error)


class Model:
    """A desk by the words of the document; works are pairs of a net and a talk."""

    def __init__(self):
        self.works, self.past, self.ahead = {}, [], []

    def run(self, line):
        words = line.split(" ") if isinstance(line, str) else []
        many = {
            "new": 3, "copy": 3, "drop": 2, "kind": 6, "box": 7, "host": 4, "teller": 3, "known": 4, "twin": 4, "send": 3,
            "back": 2, "reach": 4, "show": 2, "talk": 2, "heard": 3, "hears": 4, "undo": 1, "redo": 1,
        }
        if not words or "\n" in line or "" in words or words[0] not in many:
            raise InvalidCommand("")
        if len(words) != many[words[0]] and not (words[0] in ("new", "send") and len(words) > 3):
            raise InvalidCommand("")
        if (words[0] == "new" and not is_name(words[1])) or (words[0] == "copy" and not is_name(words[2])):
            raise InvalidCommand("")
        if words[0] in ("undo", "redo"):
            here, there = (self.past, self.ahead) if words[0] == "undo" else (self.ahead, self.past)
            if not here:
                raise NothingToUndo(1)
            line, works = here.pop()
            there.append((line, self.works))
            self.works = works
            return f"desk with {len(works)} works"
        if words[0] != "new" and words[1] not in self.works:
            raise UnknownName(words[1])
        if words[0] in ("show", "talk", "heard", "hears"):
            return self.answer(*words)
        works, reply = self.changed(words)
        if len(works) > 8:
            raise TooMany(8)
        if len(self.past) == 200:
            raise TooMany(200)
        self.past.append((line, self.works))
        self.works, self.ahead = works, []
        return reply

    def answer(self, word, work, *rest):
        net, talk = self.works[work]
        if word == "show":
            return net_text(net).replace("\n", "; ")
        if word == "talk":
            return talk_text(talk).replace("\n", "; ")
        if word == "heard":
            return " ".join(carried(net, talk).heard(rest[0])) or "nobody"
        return "yes" if hears(net, *rest) else "no"

    def changed(self, words):
        word, name = words[:2]
        if word == "new":
            if name in self.works:
                raise InvalidOperation("")
            net = read_net(" ".join(words[2:]).replace("; ", "\n"))
            return {**self.works, name: (net, Talk())}, str(net)
        net, talk = self.works[name]
        if word == "copy":
            if words[2] in self.works:
                raise InvalidOperation("")
            return {**self.works, words[2]: (net, talk)}, str(net)
        if word == "drop":
            works = dict(self.works)
            del works[name]
            return works, f"desk with {len(works)} works"
        net, talk, reply = self.worked(net, talk, words)
        return {**self.works, name: (net, talk)}, reply

    def worked(self, net, talk, words):
        word, rest = words[0], words[2:]
        if word in ("kind", "box", "host", "teller", "known", "twin"):
            if word in ("kind", "box"):
                rest = [*rest[:-3], tuple(rest[-3:])]
            net = getattr(net, "with_" + word)(*rest)
            if not fits(net, talk):
                raise InvalidOperation("")
            return net, talk, str(net)
        if word == "back":
            if len(talk) == 0:
                raise NothingToUndo(1)
            talk = Talk.of(talk.messages()[:-1])
            return net, talk, str(talk)
        if word == "send":
            before = talk_text(talk).split("\n") if len(talk) else []
            try:
                longer = read_talk("\n".join([*before, " ".join(rest)]))
            except ParseError:
                raise ParseError(0) from None
            if not fits(net, longer):
                raise InvalidOperation("")
            hearer = hearers(net, longer)[-1]
            return net, longer, "lost" if hearer is None else f"heard by {hearer}"
        if not hears(net, *rest):
            return net, talk, "never"
        if rest[1] not in carried(net, talk).heard(rest[0]):
            talk = talk + talk_to(net, *rest)
        return net, talk, "heard" if rest[1] in carried(net, talk).heard(rest[0]) else "never"


def some_line(chance, desk):
    """A command of this chance, often one that can be carried out."""
    pick = chance.choice
    work = pick([*desk.works(), *desk.works(), "x", "y", "z"])
    net = desk.net_of(work) if work in desk else PAIR
    host = [pick([*net, *net, "a", "q", *net.boxes]) for _ in range(2)]
    area = pick([*net.areas, *net.areas, "z"])
    kind = " ".join([pick(LENDINGS), pick(LETTINGS), pick(TURNINGS)])
    box = pick([*net.boxes, *net.boxes, "p"])
    many = len(desk.talk_of(work)) if work in desk else 3
    door = pick([*net, f"#{chance.randint(0, many)}", f"#{max(0, many - 1)}"])
    drawn = random_net(chance, boxes=chance.randint(0, 2), hosts=chance.randint(1, 3))
    return pick((
        f"new {pick('xyzuvwrst')} " + net_text(pick((drawn, PAIR, TIGHT, CITY))).replace("\n", "; "),
        f"new {work} host a in open; host b in p", f"copy {work} {pick('xyzuvwrst')}", f"drop {work}",
        f"kind {work} {box} {kind}",
        f"kind {work} {box} source any never", f"box {work} {pick('pqrs')} {area} {kind}",
        f"host {work} {pick('abcdq')} {area}",
        f"teller {work} {host[0]}", f"known {work} {host[0]} {host[1]}", f"twin {work} {host[0]} {pick('abcdeq')}",
        *[f"send {work} {pick(list(net))} to {door}"] * 3, f"send {work} {host[0]} to {door}", f"back {work}",
        f"reach {work} {host[0]} {host[1]}", f"show {work}", f"talk {work}", f"heard {work} {host[0]}",
        f"hears {work} {host[0]} {host[1]}",
        *["undo", "redo"] * 3,
    ))


class AgainstTheWords(unittest.TestCase):
    def check(self, desk, model):
        self.assertEqual(desk.works(), tuple(sorted(model.works)))
        self.assertEqual({work: (desk.net_of(work), desk.talk_of(work)) for work in desk.works()}, model.works)
        self.assertEqual(desk.script(), tuple([line for line, _ in model.past]))
        self.assertEqual(len(desk), len(model.works))
        for work in desk.works():
            self.assertEqual(desk.live_of(work), carried(desk.net_of(work), desk.talk_of(work)))

    def test_commands_of_each_kind(self):
        seen = set()
        for seed in range(60):
            chance, desk, model = random.Random(seed), Desk(), Model()
            for turn in range(60):
                line = some_line(chance, desk)
                found = outcome(desk.run, line)
                self.assertEqual(found, outcome(model.run, line), line)
                seen.add((line.split(" ")[0], found[0] if isinstance(found, tuple) else "done"))
                if turn % 10 == 0:
                    self.check(desk, model)
            self.check(desk, model)
            again = Desk()
            again.run_all(*desk.script())
            self.assertEqual([again, again.script()], [desk, desk.script()])
        for word in ("new", "copy", "drop", "kind", "box", "host", "teller", "known", "twin", "send", "back", "reach",
                "show", "talk",
                     "heard", "hears", "undo", "redo"):
            self.assertIn((word, "done"), seen)
            self.assertGreater(len([one for one in seen if one[0] == word]), 1, word)


class Changes(unittest.TestCase):
    def setUp(self):
        self.desk = Desk()
        self.desk.run_all(NEW, NEW.replace("new x", "new y"), *TALK[:3], "send y a to help")

    def run_one(self, line, reply, net=None, talk=None):
        """Run a change of x; whatever it does not change, y included, stays as it was."""
        before = [self.desk.net_of("x"), self.desk.talk_of("x")]
        other = [self.desk.net_of("y"), self.desk.talk_of("y")]
        self.assertEqual(self.desk.run(line), reply)
        expected = [before[0] if net is None else net, before[1] if talk is None else talk]
        self.assertEqual([self.desk.net_of("x"), self.desk.talk_of("x")], expected)
        self.assertEqual([self.desk.net_of("y"), self.desk.talk_of("y")], other)
        self.assertEqual(self.desk.script()[-1], line)
        self.assertEqual(self.desk.run("undo"), str(self.desk))
        self.assertEqual([self.desk.net_of("x"), self.desk.talk_of("x")], before)
        self.assertEqual(self.desk.run("redo"), str(self.desk))
        self.assertEqual([self.desk.net_of("x"), self.desk.talk_of("x")], expected)

    def test_new(self):
        net = CITY.with_box("z", "left", STRICT)
        line = "new z " + net_text(net).replace("\n", "; ")
        self.assertEqual(self.desk.run(line), "net of 4 hosts, 3 boxes")
        self.assertEqual([self.desk.net_of("z"), self.desk.talk_of("z")], [net, Talk()])
        self.assertEqual(self.desk.run("show z"), line.split(" ", 2)[2])
        self.assertEqual(self.desk.run("new open host a in open"), "net of 1 hosts, 0 boxes")

    def test_copy_and_drop(self):
        self.assertEqual(self.desk.run("copy x z"), "net of 3 hosts, 2 boxes")
        self.assertEqual([self.desk.net_of("z"), self.desk.talk_of("z")],
            [self.desk.net_of("x"), self.desk.talk_of("x")])
        self.desk.run("send z help to #1")
        self.assertEqual([len(self.desk.talk_of(name)) for name in "xyz"], [3, 1, 4])
        self.assertEqual(self.desk.run("drop x"), "desk with 2 works")
        self.assertEqual(self.desk.works(), ("y", "z"))
        self.assertEqual(self.desk.run("undo"), "desk with 3 works")
        self.assertEqual(len(self.desk.talk_of("x")), 3)

    def test_changes_of_the_net(self):
        net = PAIR
        for line, name, arguments in (
            ("kind x left source any lent", "with_kind", ("left", ("source", "any", "lent"))),
            ("kind x left source any lent", "with_kind", ("left", ("source", "any", "lent"))),
            ("box x z left door door inner", "with_box", ("z", "left", ("door", "door", "inner"))),
            ("host x c z", "with_host", ("c", "z")), ("teller x a", "with_teller", ("a",)),
            ("teller x help", "with_teller", ("help",)),
            ("known x c a", "with_known", ("c", "a")), ("known x a help", "with_known", ("a", "help")),
            ("twin x help d", "with_twin", ("help", "d")),
        ):
            net = getattr(net, name)(*arguments)
            self.run_one(line, str(net), net=net)

    def test_messages(self):
        talk = Talk.of(MEET.messages()[:3])
        for line, reply in (
            ("a to #1", "lost"), ("help to #1", "heard by b"), ("b to #0", "heard by a"),
            ("a to help", "heard by help"),
            ("a to a", "heard by a"), ("help to #6", "heard by a"),
        ):
            talk = read_talk(talk_text(talk) + "\n" + line)
            self.run_one(f"send x {line}", reply, talk=talk)
        while len(talk):
            talk = Talk.of(talk.messages()[:-1])
            self.run_one("back x", f"talk of {len(talk)} messages", talk=talk)
        refused(self, NothingToUndo, self.desk.run, "back x")

    def test_reach(self):
        before = self.desk.talk_of("x")
        self.assertEqual(self.desk.run("heard x a"), "help")
        self.run_one("reach x a help", "heard")
        self.run_one("reach x a b", "heard", talk=before + talk_to(PAIR, "a", "b"))
        longer = self.desk.talk_of("x")
        self.run_one("reach x a b", "heard", talk=longer)
        self.assertEqual(self.desk.run("heard x a"), "b help")
        self.desk.run("new z " + net_text(TIGHT).replace("\n", "; "))
        self.assertEqual(self.desk.run("reach z a b"), "never")
        self.assertEqual([len(self.desk.talk_of("z")), self.desk.script()[-1]], [0, "reach z a b"])

    def test_reach_adds_a_hearing_paper(self):
        chance, many = random.Random(3), 0
        for net in random_nets(701, 40, boxes=2, hosts=4):
            desk = Desk()
            desk.run("new w " + net_text(net).replace("\n", "; "))
            order = pairs(net)
            chance.shuffle(order)
            for host, other in order:
                before, heard = desk.talk_of("w"), desk.live_of("w").heard(host)
                reply = desk.run(f"reach w {host} {other}")
                self.assertEqual(reply, "heard" if hears(net, host, other) else "never")
                added = desk.talk_of("w").messages()[len(before):]
                if added:
                    places = [(sender, (word, what - len(before) if word == "shown" else what)) for sender,
                        (word, what) in added]
                    self.assertIs(is_hearing_paper(net, host, other, ("talk", Talk.of(tuple(places)))), True)
                    many += len(before) > 0
                self.assertEqual(added != (), reply == "heard" and other not in heard)
                self.assertEqual(other in desk.live_of("w").heard(host), reply == "heard")
        self.assertGreater(many, 20)

    def test_questions(self):
        state = self.desk.script()
        for line, reply in (
            ("show x", net_text(PAIR).replace("\n", "; ")), ("talk x", "a to help; b to help; help to #0"),
            ("talk y", "a to help"),
            ("heard x a", "help"), ("heard x help", "a b"), ("heard x b", "nobody"), ("hears x a b", "yes"),
            ("hears y b help", "yes"),
        ):
            for _ in range(2):
                self.assertEqual(self.desk.run(line), reply)
        self.assertEqual(self.desk.script(), state)
        self.desk.run_all("new z host a in open; host b in open", "hears z a b", "heard z a")
        self.assertEqual([self.desk.run(line) for line in ("talk z", "show z", "hears z a b", "heard z a")],
                         ["", "host a in open; host b in open", "no", "nobody"])

    def test_looser_works_are_never_refused(self):
        chance = random.Random(5)
        for net in random_nets(703, 40, boxes=3, hosts=3):
            desk = Desk()
            desk.run("new w " + net_text(net).replace("\n", "; "))
            for host, other in pairs(net):
                desk.run(f"reach w {host} {other}")
            for _ in range(10):
                now, talk = desk.net_of("w"), desk.talk_of("w")
                box, host = chance.choice(list(now.boxes)), chance.choice(tuple(now))
                looser = " ".join(chance.choice(list(kinds(least=now.kind_of(box)))))
                for line in (f"kind w {box} {looser}", f"teller w {host}"):
                    self.assertEqual(desk.run(line), str(now))
                self.assertEqual([desk.talk_of("w"), fits(desk.net_of("w"), talk)], [talk, True])
            free = "defghi"[:6 - len(net)]
            self.assertEqual([desk.run(f"twin w a {name}") for name in free],
                [f"net of {at + 4} hosts, 3 boxes" for at in range(3)])
            self.assertIs(fits(desk.net_of("w"), talk), True)

    def test_changes_of_nets_that_talks_fit_or_not(self):
        chance, seen = random.Random(7), set()
        loose = [kind for kind in KINDS if kind[1] == "any"]
        for net in random_nets(705, 40, boxes=2, hosts=5, choice=loose) + 3 * [PAIR, CITY]:
            desk = Desk()
            desk.run("new w " + net_text(net).replace("\n", "; "))
            for line in talk_text(random_talk(chance, net, 150)).split("\n"):
                desk.run(f"send w {line}")
            for _ in range(12):
                box, kind = chance.choice(list(net.boxes)), chance.choice(KINDS)
                before, talk, script = desk.net_of("w"), desk.talk_of("w"), desk.script()
                changed, line = before.with_kind(box, kind), f"kind w {box} " + " ".join(kind)
                good = fits(changed, talk)
                self.assertEqual(outcome(desk.run, line), str(net) if good else ("InvalidOperation",))
                self.assertEqual([desk.net_of("w"), desk.talk_of("w")], [changed if good else before, talk])
                self.assertEqual(desk.script(), script + (line,) if good else script)
                seen.add(good)
        self.assertEqual(seen, {True, False})

    def test_a_talk_that_does_not_fit_the_new_net(self):
        desk = Desk()
        desk.run_all(
            "new w box p in open source any never; host a in p; host b in open teller; host c in open teller; "
            "known a b; known b c; known c b", "send w a to b", "send w b to c", "send w c to #0", "send w a to #2",
        )
        self.assertEqual(desk.run("heard w a"), "c")
        before = [desk.net_of("w"), desk.talk_of("w"), desk.script()]
        # c would not be let in any more, so a would never learn where it is, and could not answer.
        refused(self, InvalidOperation, desk.run, "kind w p source address never")
        self.assertEqual([desk.net_of("w"), desk.talk_of("w"), desk.script()], before)
        self.assertEqual(desk.run("kind w p source any inner"), "net of 3 hosts, 1 boxes")


class Errors(unittest.TestCase):
    def setUp(self):
        self.desk = Desk()
        self.desk.run_all(NEW, *TALK)

    def check(self, line, *expected):
        """Run a line that raises this error and changes nothing."""
        before = [self.desk.works(), self.desk.script(), outcome(self.desk.run, "show x"),
            outcome(self.desk.run, "talk x")]
        self.assertEqual(outcome(self.desk.run, line), expected, line)
        self.assertEqual(outcome(self.desk.run_all, line), expected, line)
        after = [self.desk.works(), self.desk.script(), outcome(self.desk.run, "show x"),
            outcome(self.desk.run, "talk x")]
        self.assertEqual(before, after)

    def test_no_commands(self):
        for line in ODD + (
            "new", "new x", "copy", "copy x", "copy x y z", "drop", "drop x y", "kind x left source any",
            "kind x left source any never lent", "kind",
            "box x z open source any", "box x z open source any never lent", "box", "host x z", "host x z open teller",
            "teller x", "teller x a b",
            "known x a", "known x a help b", "twin x a", "twin x a z b", "send", "send x", "back", "back x 1",
            "reach x a", "reach x a b c", "show",
            "show x x", "talk", "talk x x", "heard x", "heard x a b", "hears x a", "hears x a b c", "undo x", "redo x",
            "undo 1", "redo redo",
            " undo", "undo ", "undo\n", "\nundo", "show  x", "show x ", " show x", "show\nx", "Show x", "SHOW x",
            "shows x", "x", "x show", "", " ", "  ",
            "\n", "new Y host a in open", "new abcdefghi host a in open", "new 1 host a in open", "copy x Y",
            "copy z Y", "copy x abcdefghi", "copy x 1",
            "send x a to  b", "new y host a in open;\nhost b in open", "new y  host a in open",
            "new y host a in open ", "quit", "len", "undo;",
            "run show x", ["undo"], ("undo",), {"undo": 1},
        ):
            self.check(line, "InvalidCommand")

    def test_unknown_works(self):
        for rest in ("copy {} y", "copy {} x", "drop {}", "kind {} left source any never", "kind {} q a b c",
                "box {} z open door door lent", "host {} z open",
                     "teller {} a", "known {} a help", "twin {} a z", "send {} a to help", "send {} bad", "back {}",
                     "reach {} a b", "show {}",
                     "talk {}", "heard {} a", "hears {} a b", "hears {} a a"):
            for work in ("y", "X", "left", "a", "1", "abcdefghi", "#0", "open", "None"):
                self.check(rest.format(work), "UnknownName", work)

    def test_works_that_are_there(self):
        self.check("new x host a in open", "InvalidOperation")
        self.check("new x bad", "InvalidOperation")
        self.check("copy x x", "InvalidOperation")
        for name in "abcdefg":
            self.desk.run(f"copy x {name}")
        self.check("copy x a", "InvalidOperation")
        self.check("new x bad", "InvalidOperation")
        self.check("copy z a", "UnknownName", "z")

    def test_wrong_texts_of_nets(self):
        for text, line in (
            ("bad", 0), ("host a in open; bad", 1), ("host a in open; host a in open", 1), ("host a in p", 1),
            ("host a in open;", 0),
            ("; host a in open", 0), ("host a in open;host b in open", 0), ("host a in open; ; host b in open", 1),
            ("host a in open; host b in p", 2),
            (";", 0), ("host a in open ; host b in open", 0), ("show x", 0), ("box p in open source any never", 1),
        ):
            self.check(f"new y {text}", "ParseError", line)

    def test_wrong_messages(self):
        for text in ("a", "a to", "a to b c", "A to b", "a to B", "a to #6", "a to #7", "a to #" + "9" * 5000,
                "a to #01", "a to #-1", "a to #", "a at b",
                     "a to b; b to a", "a to #0;", "abcdefghi to a", "a to abcdefghi", "to a to", "#0 to a",
                     "x a to b"):
            self.check(f"send x {text}", "ParseError", 0)
        for line in ("send x a to b", "send x z to help", "send x a to z", "send x left to help", "send x a to left",
                "send x help to #3",
                     "send x a to open", "send x open to a", "send x z to z"):
            self.check(line, "InvalidOperation")

    def test_errors_of_the_functions(self):
        for line, *expected in (
            ("kind x z source any never", "UnknownName", "z"), ("kind x a source any never", "UnknownName", "a"),
            ("kind x z a b c", "UnknownName", "z"),
            ("kind x left any source never", "InvalidKind"), ("kind x left source any Never", "InvalidKind"),
            ("box x z q a b c", "UnknownName", "q"),
            ("box x z a source any never", "UnknownName", "a"), ("box x Z open a b c", "InvalidKind"),
            ("box x Z open source any never", "InvalidOperation"),
            ("box x a open source any never", "InvalidOperation"), ("box x left open source any never",
            "InvalidOperation"),
            ("host x z q", "UnknownName", "q"), ("host x z a", "UnknownName", "a"), ("host x a q", "UnknownName", "q"),
            ("host x a open", "InvalidOperation"),
            ("host x Z open", "InvalidOperation"), ("host x open open", "InvalidOperation"),
            ("host x left open", "InvalidOperation"),
            ("teller x z", "UnknownName", "z"), ("teller x left", "UnknownName", "left"),
            ("known x z y", "UnknownName", "z"),
            ("known x a y", "UnknownName", "y"), ("known x a a", "InvalidOperation"),
            ("known x a b", "InvalidOperation"),
            ("twin x z Z", "UnknownName", "z"), ("twin x a Z", "InvalidOperation"), ("twin x a b", "InvalidOperation"),
            ("twin x a open", "InvalidOperation"),
            ("reach x z y", "UnknownName", "z"), ("reach x a y", "UnknownName", "y"),
            ("reach x left left", "UnknownName", "left"),
            ("reach x a a", "InvalidOperation"), ("heard x z", "UnknownName", "z"),
            ("heard x left", "UnknownName", "left"),
            ("hears x z y", "UnknownName", "z"), ("hears x a y", "UnknownName", "y"),
            ("hears x a a", "InvalidOperation"),
        ):
            self.check(line, *expected)

    def test_nothing_to_undo(self):
        desk = Desk()
        for line in ("undo", "redo"):
            self.assertEqual(outcome(desk.run, line), ("NothingToUndo", 1))
        desk.run(NEW)
        self.assertEqual(outcome(desk.run, "back x"), ("NothingToUndo", 1))
        self.assertEqual(outcome(desk.run, "redo"), ("NothingToUndo", 1))
        desk.run("undo")
        self.assertEqual([outcome(desk.run, "undo"), desk.run("redo")], [("NothingToUndo", 1), "desk with 1 works"])

    def test_eight_works_and_nine(self):
        self.assertEqual([MAX_WORKS, MAX_CHANGES], [8, 200])
        for name in "abcdefg":
            self.desk.run(f"new {name} host a in open")
        self.assertEqual(len(self.desk), 8)
        self.check("new h host a in open", "TooMany", 8)
        self.check("copy x h", "TooMany", 8)
        self.check("new h bad", "ParseError", 0)
        self.check("new H bad", "InvalidCommand")
        self.check("copy h i", "UnknownName", "h")
        self.desk.run("drop a")
        self.assertEqual(self.desk.run("copy x h"), "net of 3 hosts, 2 boxes")

    def test_many_messages(self):
        desk = Desk()
        desk.run("new w host a in open; host b in open teller; known a b; known b a")
        messages = tuple([("a", ("own", "b"))] * 5999)
        # A talk of this length takes more changes than a desk keeps, so it is put into the work here.
        net = desk.net_of("w")
        desk._works = {"w": (net, Talk.of(messages), carried(net, Talk.of(messages)))}
        self.assertEqual(desk.run("send w a to b"), "heard by b")
        self.assertEqual(len(desk.talk_of("w")), 6000)
        self.assertEqual(outcome(desk.run, "send w a to b"), ("TooMany", 6000))
        self.assertEqual(outcome(desk.run, "send w a to #5999"), ("TooMany", 6000))
        self.assertEqual(outcome(desk.run, "send w a to #6000"), ("ParseError", 0))
        self.assertEqual(outcome(desk.run, "send w a to c"), ("InvalidOperation",))
        self.assertEqual(outcome(desk.run, "reach w a b"), ("TooMany", 6000))
        self.assertEqual(desk.run("reach w b a"), "heard")
        self.assertEqual(desk.run("back w"), "talk of 5999 messages")
        self.assertEqual(desk.run("reach w a b"), "heard")

    def test_two_hundred_changes_and_one_more(self):
        desk = Desk()
        desk.run_all(NEW, *["teller x a"] * 199)
        state = desk.script()
        self.assertEqual(len(state), 200)
        for line in ("teller x a", "send x a to help", "drop x", "copy x y", "new y host a in open", "reach x a b",
                "kind x left source any never"):
            self.assertEqual(outcome(desk.run, line), ("TooMany", 200))
        for line, *expected in (("back x", "NothingToUndo", 1), ("send x a to b", "InvalidOperation"),
                ("teller x z", "UnknownName", "z"), ("new x bad", "InvalidOperation"),
                                ("redo", "NothingToUndo", 1), ("new y bad", "ParseError", 0)):
            self.assertEqual(outcome(desk.run, line), tuple(expected))
        self.assertEqual([desk.run("hears x a b"), desk.script()], ["yes", state])
        desk.run("undo")
        self.assertEqual(desk.run("send x a to help"), "heard by help")
        self.assertEqual(outcome(desk.run, "teller x a"), ("TooMany", 200))
        full = Desk()
        full.run_all(*["new " + name + " host a in open" for name in "abcdefgh"], *["teller a a"] * 192)
        self.assertEqual([outcome(full.run, "new i host a in open"), outcome(full.run, "copy a i")],
            [("TooMany", 8)] * 2)
        for many in range(200):
            self.assertEqual(desk.run("undo"), f"desk with {int(many < 199)} works")
        self.assertEqual(outcome(desk.run, "undo"), ("NothingToUndo", 1))
        for many in range(200):
            self.assertEqual(desk.run("redo"), "desk with 1 works")
        self.assertEqual(outcome(desk.run, "redo"), ("NothingToUndo", 1))
        self.assertEqual(desk.script(), state[:199] + ("send x a to help",))


class Undone(unittest.TestCase):
    def test_behind_each_kind_of_change(self):
        lines = [NEW, "copy x y", "kind x left source any never", "box x z open door door lent", "host x c z",
            "teller x c", "known x c help",
                 "twin x c d", *TALK, "back x", "reach x a b", "reach y a b", "drop y"]
        states, desk = [Desk()], Desk()
        for line in lines:
            desk.run(line)
            state = Desk()
            state.run_all(*desk.script())
            states.append(state)
        for at in range(len(lines) - 1, -1, -1):
            self.assertEqual(desk.run("undo"), str(states[at]))
            self.assertEqual([desk, desk.script()], [states[at], tuple(lines[:at])])
        for at in range(len(lines)):
            self.assertEqual(desk.run("redo"), str(states[at + 1]))
            self.assertEqual([desk, desk.script()], [states[at + 1], tuple(lines[:at + 1])])

    def test_behind_errors_and_questions(self):
        desk = Desk()
        desk.run_all(NEW, "send x a to help", "undo")
        for line in ("show x", "talk x", "heard x a", "hears x a b", "send x a to b", "bad", "drop y", "back x",
                "new x host a in open"):
            outcome(desk.run, line)
        self.assertEqual([desk.run("redo"), desk.run("talk x")], ["desk with 1 works", "a to help"])
        outcome(desk.run, "send x a to b")
        self.assertEqual([desk.run("undo"), desk.run("talk x")], ["desk with 1 works", ""])

    def test_a_change_forgets_what_was_taken_back(self):
        for line in ("teller x help", "reach x help a", "send x b to help", "copy x y"):
            desk = Desk()
            desk.run_all(NEW, "send x a to help", "send x a to help", "undo", "undo", line)
            self.assertEqual(outcome(desk.run, "redo"), ("NothingToUndo", 1))
            self.assertEqual(desk.script(), (NEW, line))
        # A change without effect is one, too.
        desk = Desk()
        desk.run_all(NEW, "teller x help", "undo", "teller x help")
        self.assertEqual([outcome(desk.run, "redo"), desk.script()], [("NothingToUndo", 1), (NEW, "teller x help")])

    def test_works_with_the_names_of_commands(self):
        desk = Desk()
        desk.run_all("new undo host a in open", "copy undo redo", "teller redo a", "send undo a to a", "drop undo")
        self.assertEqual([desk.works(), len(desk.script())], [("redo",), 5])
        self.assertEqual([desk.run("show redo"), desk.run("talk redo")], ["host a in open teller", ""])
        desk.run_all("undo", "copy undo new", "new show host send in open", "send show send to send",
            "twin show send undo")
        self.assertEqual(desk.run("talk show"), "send to send")

    def test_undo_is_no_change(self):
        desk = Desk()
        desk.run_all(NEW, "send x a to help", "undo", "redo", "undo", "redo")
        self.assertEqual(desk.script(), (NEW, "send x a to help"))
        desk.run_all("undo", "undo")
        self.assertEqual([desk.script(), len(desk)], [(), 0])
        self.assertEqual(desk.run("redo"), "desk with 1 works")


class AllLines(unittest.TestCase):
    def test_replies(self):
        self.assertEqual(Desk().run_all(), ())
        one, other = Desk(), Desk()
        lines = (NEW, *TALK, "undo", "redo", "hears x a b", "talk x", "drop x")
        self.assertEqual(one.run_all(*lines), tuple([other.run(line) for line in lines]))
        self.assertEqual([one, one.script()], [other, other.script()])

    def test_an_error_changes_nothing(self):
        for bad, *expected in (("bad", "InvalidCommand"), ("back y", "UnknownName", "y"),
                ("send x a to b", "InvalidOperation"), ("new z bad", "ParseError", 0),
                               (None, "InvalidCommand"), ("kind x left a b c", "InvalidKind")):
            desk, same = Desk(), Desk()
            for one in (desk, same):
                one.run_all(NEW, *TALK[:3], "undo", "undo")
            for lines in ((bad,), ("undo", bad), ("redo", bad), ("send x b to help", bad, "drop x"),
                    ("teller x b", "undo", bad),
                          ("copy x w", "teller w a", "undo", bad)):
                self.assertEqual(outcome(desk.run_all, *lines), tuple(expected))
                self.assertEqual([desk, desk.script()], [same, same.script()])
            for line in ("redo", "redo", "undo", "undo", "undo", "undo", "redo"):
                self.assertEqual(outcome(desk.run, line), outcome(same.run, line))
                self.assertEqual([desk, desk.script()], [same, same.script()])

    def test_errors_within(self):
        desk = Desk()
        self.assertEqual(outcome(desk.run_all, "undo"), ("NothingToUndo", 1))
        self.assertEqual(outcome(desk.run_all, NEW, "undo", "undo"), ("NothingToUndo", 1))
        self.assertEqual(outcome(desk.run_all, NEW, *["teller x a"] * 200), ("TooMany", 200))
        self.assertEqual([len(desk), desk.script()], [0, ()])
        self.assertEqual(outcome(desk.run_all, *[f"new {name} host a in open" for name in "abcdefghi"]), ("TooMany", 8))
        self.assertEqual(len(desk), 0)


class Desks(unittest.TestCase):
    def test_scripts(self):
        desk = Desk()
        self.assertEqual(desk.script(), ())
        lines = (NEW, *TALK, "show x", "copy x y", "undo", "hears x a b", "reach x help b", "drop x", "undo")
        desk.run_all(*lines)
        self.assertEqual(desk.script(), (NEW, *TALK, "reach x help b"))
        again = Desk()
        again.run_all(*desk.script())
        self.assertEqual(again, desk)

    def test_works(self):
        desk = Desk()
        self.assertEqual([desk.works(), len(desk), str(desk)], [(), 0, "desk with 0 works"])
        desk.run_all(*[f"new {name} host a in open" for name in "cba"])
        self.assertEqual([desk.works(), len(desk), str(desk)], [("a", "b", "c"), 3, "desk with 3 works"])
        self.assertEqual(desk.net_of("b"), Net({}, {"a": "open"}))
        for value in ODD + ("x", "open"):
            for call in (desk.net_of, desk.talk_of, desk.live_of):
                with self.assertRaises(UnknownName) as caught:
                    call(value)
                self.assertIs(caught.exception.name, value)
            self.assertIs(value in desk, False)
        self.assertIs("a" in desk, True)
        with self.assertRaises(TypeError):
            iter(desk)

    def test_live_nets_are_copies(self):
        desk = Desk()
        desk.run_all(NEW, *TALK)
        live = desk.live_of("x")
        self.assertEqual(live, carried(PAIR, MEET))
        self.assertEqual([live.box("left"), live.box("right")], [carried(PAIR, MEET).box("left"),
            carried(PAIR, MEET).box("right")])
        live.back(many=6)
        live.send("a", ("help", 0))
        self.assertEqual([desk.live_of("x"), desk.run("heard x a")], [carried(PAIR, MEET), "b help"])
        self.assertEqual(outcome(live.back, *()), None)
        live = desk.live_of("x")
        live.round()
        self.assertEqual([desk.run("send x a to #1"), len(desk.live_of("x"))], ["heard by b", 7])
        live = desk.live_of("x")
        live.back(many=7)
        self.assertEqual(len(live), 0)
        desk.run_all("back x", "back x", "kind x left source any never")
        expected = carried(desk.net_of("x"), desk.talk_of("x"))
        self.assertEqual([desk.live_of("x"), desk.live_of("x").box("left")], [expected, expected.box("left")])

    def test_equal(self):
        one, other = Desk(), Desk()
        self.assertEqual(one, other)
        one.run(NEW)
        self.assertNotEqual(one, other)
        other.run_all(NEW, "send x a to help", "back x")
        self.assertEqual([one == other, one != other], [True, False])
        other.run("send x a to help")
        self.assertNotEqual(one, other)
        one.run_all("send x a to help", "copy x y", "drop x")
        other.run_all("copy x y", "drop x")
        self.assertEqual(one, other)
        one.run("teller y a")
        self.assertNotEqual(one, other)
        other.run_all("teller y a", "copy y z", "drop y")
        self.assertNotEqual(one, other)
        for value in ODD + (one.works(), "desk with 1 works"):
            self.assertEqual([one == value, one != value], [False, True])

    def test_returned_tuples(self):
        desk = Desk()
        desk.run(NEW)
        for found in (desk.works(), desk.script(), desk.run_all("show x")):
            self.assertIsInstance(found, tuple)
        desk.net_of("x").boxes.clear()
        self.assertEqual(desk.net_of("x"), PAIR)


class Quick(unittest.TestCase):
    """One command on a net of three boxes and four hosts takes milliseconds."""

    def test_commands(self):
        chance = random.Random(9)
        for kind in KINDS[::4]:
            desk, slowest = Desk(), []
            net = random_net(chance, boxes=3, hosts=4, choice=(kind, chance.choice(KINDS)))
            lines = ["new w " + net_text(net).replace("\n", "; "), "copy w v"]
            lines.extend([f"reach w {host} {other}" for host, other in pairs(net)])
            lines.extend([f"hears v {host} {other}" for host, other in pairs(net)])
            lines.extend(["kind w p source any never", "teller w a", "host w e open", "twin w a f", "show w", "talk w",
                "heard w a"])
            lines.extend(["send w a to a"] * (200 - len([line for line in lines if line.split(" ")[0] not in ("hears",
                "show", "talk", "heard")])))
            lines.extend(["undo"] * 200 + ["redo"] * 200)
            for line in lines:
                start = time.perf_counter()
                desk.run(line)
                slowest.append(time.perf_counter() - start)
            self.assertEqual(len(desk.script()), 200)
            self.assertLess(sum(slowest) / len(slowest), 0.02)
            self.assertLess(sorted(slowest)[-3], 0.1)
            self.assertLess(len(desk.talk_of("w")), 500)


class Deep(unittest.TestCase):
    def test_a_net_of_four_boxes(self):
        desk = Desk()
        desk.run("new deep " + net_text(DEEP).replace("\n", "; "))
        for host, other in pairs(DEEP):
            reply = desk.run(f"reach deep {host} {other}")
            self.assertEqual([reply, desk.run(f"hears deep {host} {other}")],
                [reply, "yes" if reply == "heard" else "no"])
        self.assertEqual(desk.talk_of("deep"), read_talk(desk.run("talk deep").replace("; ", "\n")))
        self.assertEqual(hearers(DEEP, desk.talk_of("deep")), tuple([entry[3] for entry in desk.live_of("deep").log()]))


if __name__ == "__main__":
    unittest.main()
