"""Boxes at work (stage 3, [0.11], [0.12])."""

import itertools
import unittest

from lentdoors.base.kinds import kinds
from lentdoors.errors import InvalidDoor, InvalidKind, InvalidNumber
from lentdoors.live.boxes import LiveBox
from samples import Chooser, ODD, OPEN, STRICT

SOURCES = (("a", 0), ("a", 1), ("b", 0))
TARGETS = (("x", 5), ("x", 6), ("y", 5))
MESSAGES = tuple(itertools.product(SOURCES, TARGETS))
LENT = ("left", 1)


def box_of(lending="door", letting="door", turning="never", numbers=None):
    return LiveBox("left", (lending, letting, turning), numbers=numbers)


def state(box):
    doors = list(box)
    return (str(box), doors, box.doors(), [box.inner(door) for door in doors], [box.used(door) for door in doors])


class Making(unittest.TestCase):
    def test_a_new_box(self):
        box = LiveBox("left", STRICT)
        self.assertEqual(state(box), ("box left with 0 doors", [], (), [], []))
        self.assertEqual([box.address, box.kind, len(box)], ["left", STRICT, 0])

    def test_all_kinds(self):
        for kind in kinds():
            self.assertEqual(LiveBox("a", kind).kind, kind)

    def test_names(self):
        for name in ("a", "abcdefgh", "open"):
            self.assertEqual(LiveBox(name, OPEN).address, name)

    def test_errors(self):
        for value in ODD:
            for arguments in ((value, OPEN), ("left", value), (value, value)):
                with self.assertRaises(InvalidKind):
                    LiveBox(*arguments)
        for name in ("", "abcdefghi", "Left", "le ft"):
            with self.assertRaises(InvalidKind):
                LiveBox(name, OPEN)

    def test_chooser_is_passed_by_keyword(self):
        with self.assertRaises(TypeError):
            LiveBox("left", OPEN, None)

    def test_the_chooser_is_not_asked_yet(self):
        chooser = Chooser()
        LiveBox("left", OPEN, numbers=chooser)
        self.assertEqual(chooser.asked, [])

    def test_properties_are_not_assigned(self):
        for name in ("address", "kind"):
            with self.assertRaises(AttributeError):
                setattr(box_of(), name, OPEN)


class Lending(unittest.TestCase):
    def lent(self, lending):
        box = box_of(lending)
        return [box.lend(source, target)[1] for source, target in MESSAGES]

    def test_by_source(self):
        self.assertEqual(self.lent("source"), [1, 1, 1, 2, 2, 2, 3, 3, 3])

    def test_by_address(self):
        self.assertEqual(self.lent("address"), [1, 1, 2, 3, 3, 4, 5, 5, 6])

    def test_by_door(self):
        self.assertEqual(self.lent("door"), [1, 2, 3, 4, 5, 6, 7, 8, 9])

    def test_again_the_same_doors(self):
        for lending in ("source", "address", "door"):
            box = box_of(lending)
            first = [box.lend(source, target) for source, target in MESSAGES]
            again = [box.lend(source, target) for source, target in reversed(MESSAGES)]
            self.assertEqual(again, first[::-1])
            self.assertEqual(len(box), len(set(first)))

    def test_letting_and_turning_do_not_matter(self):
        for lending, letting, turning in kinds():
            box = box_of(lending, letting, turning)
            self.assertEqual([box.lend(*message)[1] for message in MESSAGES], self.lent(lending))

    def test_doors_at_the_box_itself(self):
        box = box_of("door")
        door = box.lend(("a", 0), ("left", 7))
        self.assertEqual(box.lend(door, door), ("left", 2))
        self.assertEqual(box.inner(("left", 2)), door)

    def test_numbers_of_forty_digits(self):
        box = box_of("door", numbers=Chooser(10 ** 40 - 1, 0))
        self.assertEqual(box.lend(("a", 10 ** 40 - 1), ("x", 10 ** 40 - 2)), ("left", 10 ** 40 - 1))
        self.assertEqual(box.lend(("a", 10 ** 40 - 1), ("x", 10 ** 40 - 1)), ("left", 0))
        self.assertIs(box.lets_in(("left", 10 ** 40 - 1), ("x", 10 ** 40 - 2)), True)

    def test_two_boxes_lend_by_themselves(self):
        one, two = box_of(), LiveBox("right", STRICT)
        one.lend(("a", 0), ("x", 5))
        self.assertEqual(two.lend(("a", 0), ("x", 5)), ("right", 1))
        self.assertEqual([len(one), len(two)], [1, 1])


class Choosing(unittest.TestCase):
    def test_none_counts_from_one(self):
        box = box_of(numbers=None)
        self.assertEqual([box.lend(*message)[1] for message in MESSAGES], list(range(1, 10)))

    def test_a_chooser_gets_how_many_there_are(self):
        chooser = Chooser(70, 3, 0)
        box = box_of(numbers=chooser)
        found = [box.lend(*message) for message in MESSAGES[:3]]
        self.assertEqual(found, [("left", 70), ("left", 3), ("left", 0)])
        self.assertEqual(chooser.asked, [0, 1, 2])

    def test_a_chooser_is_asked_once_for_each_new_door(self):
        for lending, doors in (("source", 3), ("address", 6), ("door", 9)):
            chooser = Chooser(*range(20, 40))
            box = box_of(lending, numbers=chooser)
            for message in MESSAGES + MESSAGES:
                box.lend(*message)
            self.assertEqual(chooser.asked, list(range(doors)))

    def test_other_methods_do_not_ask(self):
        chooser = Chooser(4)
        box = box_of(numbers=chooser)
        door = box.lend(("a", 0), ("x", 5))
        box.lets_in(door, ("x", 5)), box.inner(door), box.used(door), box.doors(), list(box), len(box), str(box)
        self.assertEqual([box == box_of(), door in box, box != box], [False, True, False])
        self.assertEqual(chooser.asked, [0])

    def test_each_wrong_number(self):
        for value in ODD + ("1", (1,), [1], -7):
            if type(value) is int and value >= 0:
                continue
            chooser = Chooser(5, value, 6)
            box = box_of(numbers=chooser)
            box.lend(*MESSAGES[0])
            before = state(box)
            with self.assertRaises(InvalidNumber) as caught:
                box.lend(*MESSAGES[1])
            self.assertIs(caught.exception.value, value)
            self.assertEqual(state(box), before)
            self.assertEqual(box.lend(*MESSAGES[1]), ("left", 6))
            self.assertEqual(chooser.asked, [0, 1, 1])

    def test_the_first_number_may_be_wrong(self):
        box = box_of(numbers=Chooser(True, -1, 0))
        for value in (True, -1):
            with self.assertRaises(InvalidNumber) as caught:
                box.lend(*MESSAGES[0])
            self.assertIs(caught.exception.value, value)
            self.assertEqual(state(box), state(box_of()))
            self.assertEqual(box, box_of())
        self.assertEqual(box.lend(*MESSAGES[0]), ("left", 0))

    def test_a_number_that_was_lent(self):
        box = box_of(numbers=Chooser(8, 4, 8, 4, 5))
        box.lend(*MESSAGES[0])
        box.lend(*MESSAGES[1])
        before = state(box)
        for value in (8, 4):
            with self.assertRaises(InvalidNumber) as caught:
                box.lend(*MESSAGES[2])
            self.assertEqual(caught.exception.value, value)
            self.assertEqual(state(box), before)
        self.assertEqual(box.lend(*MESSAGES[2]), ("left", 5))

    def test_no_number_is_needed_for_an_old_door(self):
        box = box_of("source", numbers=lambda many: 2)
        self.assertEqual(box.lend(("a", 0), ("x", 5)), ("left", 2))
        self.assertEqual(box.lend(("a", 0), ("y", 5)), ("left", 2))
        with self.assertRaises(InvalidNumber):
            box.lend(("b", 0), ("x", 5))

    def test_wrong_doors_come_ahead_of_wrong_numbers(self):
        chooser = Chooser(-1)
        box = box_of(numbers=chooser)
        for arguments in ((("a", -1), ("x", 5)), (("a", 0), ("x", True))):
            with self.assertRaises(InvalidDoor):
                box.lend(*arguments)
        self.assertEqual(chooser.asked, [])


class LettingIn(unittest.TestCase):
    def used_box(self, letting, *targets):
        box = box_of("source", letting)
        for target in targets:
            box.lend(("a", 0), target)
        return box

    def let_in(self, letting):
        box = self.used_box(letting, ("x", 5), ("y", 1))
        asked = (("x", 5), ("x", 6), ("y", 1), ("y", 5), ("z", 5), ("a", 0), ("left", 1))
        return [box.lets_in(LENT, source) for source in asked]

    def test_from_any(self):
        self.assertEqual(self.let_in("any"), [True] * 7)

    def test_from_an_address(self):
        self.assertEqual(self.let_in("address"), [True, True, True, True, False, False, False])

    def test_from_a_door(self):
        self.assertEqual(self.let_in("door"), [True, False, True, False, False, False, False])

    def test_uses_of_this_door_alone(self):
        for letting, expected in (("any", True), ("address", False), ("door", False)):
            box = box_of("door", letting)
            one, two = box.lend(("a", 0), ("x", 5)), box.lend(("a", 0), ("y", 1))
            self.assertIs(box.lets_in(one, ("y", 1)), expected)
            self.assertIs(box.lets_in(two, ("x", 5)), expected)
            self.assertIs(box.lets_in(one, ("x", 5)), True)
            self.assertIs(box.lets_in(two, ("y", 1)), True)

    def test_asking_changes_nothing(self):
        for letting in ("any", "address", "door"):
            box = self.used_box(letting, ("x", 5))
            before = state(box)
            box.lets_in(LENT, ("z", 9))
            self.assertEqual(state(box), before)

    def test_lending_and_turning_do_not_matter(self):
        for lending, letting, turning in kinds():
            box = box_of(lending, letting, turning)
            box.lend(("a", 0), ("x", 5))
            found = [box.lets_in(LENT, source) for source in (("x", 5), ("x", 6), ("y", 5))]
            self.assertEqual(found, [True, letting != "door", letting == "any"])


class Told(unittest.TestCase):
    def test_inner(self):
        box = box_of("address")
        for source, target in MESSAGES:
            self.assertEqual(box.inner(box.lend(source, target)), source)

    def test_used_is_ascending_and_without_repeats(self):
        box = box_of("source")
        for target in (("y", 1), ("x", 10), ("x", 9), ("y", 1), ("x", 10)):
            box.lend(("a", 0), target)
        self.assertEqual(box.used(LENT), (("x", 9), ("x", 10), ("y", 1)))

    def test_used_of_each_door(self):
        box = box_of("address")
        for message in MESSAGES:
            box.lend(*message)
        self.assertEqual(box.used(("left", 3)), (("x", 5), ("x", 6)))
        self.assertEqual(box.used(("left", 6)), (("y", 5),))

    def test_doors_and_iteration(self):
        box = box_of(numbers=Chooser(30, 7, 10, 0))
        for message in MESSAGES[:4]:
            box.lend(*message)
        box.lend(*MESSAGES[1])
        self.assertEqual(box.doors(), (("left", 0), ("left", 7), ("left", 10), ("left", 30)))
        self.assertEqual(list(box), [("left", 30), ("left", 7), ("left", 10), ("left", 0)])
        self.assertEqual([door for door in box], list(box))
        self.assertEqual(len(box), 4)

    def test_lending_in_a_loop_over_the_box(self):
        box = box_of()
        box.lend(("a", 0), ("x", 0))
        seen = [box.lend(door, ("x", 1)) for door in box]
        self.assertEqual([seen, len(box)], [[("left", 2)], 2])

    def test_in(self):
        box = box_of(numbers=Chooser(1, 0))
        box.lend(*MESSAGES[0])
        self.assertIs(("left", 1) in box, True)
        self.assertIs(("left", 0) in box, False)
        box.lend(*MESSAGES[1])
        self.assertIs(("left", 0) in box, True)
        for value in ODD + (("left", True), ("left", False), ("right", 1), ("a", 0), ["left", 1], "left", 1,
                            ("left",), ("left", 1, 1), (["left"], 1), ("left", [1])):
            self.assertIs(value in box, False, value)
            self.assertIs(value not in box, True, value)

    def test_str(self):
        box = box_of()
        self.assertEqual(str(box), "box left with 0 doors")
        box.lend(*MESSAGES[0])
        self.assertEqual(str(box), "box left with 1 doors")
        box.lend(*MESSAGES[1])
        self.assertEqual([str(box), str(LiveBox("right", OPEN))], ["box left with 2 doors", "box right with 0 doors"])


class WrongDoors(unittest.TestCase):
    def setUp(self):
        self.box = box_of("door", "any")
        self.box.lend(("a", 0), ("x", 5))
        self.before = state(self.box)

    def tearDown(self):
        self.assertEqual(state(self.box), self.before)

    def refused(self, call, *arguments):
        with self.assertRaises(InvalidDoor) as caught:
            call(*arguments)
        self.assertIs(type(caught.exception), InvalidDoor)

    def test_lend(self):
        for value in ODD:
            self.refused(self.box.lend, value, ("x", 5))
            self.refused(self.box.lend, ("a", 0), value)
            self.refused(self.box.lend, value, value)

    def test_doors_that_were_not_lent(self):
        for value in ODD + (("left", 2), ("left", 0), ("left", True), ("right", 1), ("a", 0), ("x", 5)):
            self.refused(self.box.lets_in, value, ("x", 5))
            self.refused(self.box.lets_in, value, None)
            self.refused(self.box.inner, value)
            self.refused(self.box.used, value)

    def test_sources_that_are_no_doors(self):
        for value in ODD:
            self.refused(self.box.lets_in, LENT, value)
        for letting in ("any", "address", "door"):
            box = box_of("door", letting)
            box.lend(("a", 0), ("x", 1))
            self.refused(box.lets_in, LENT, ("x", True))


class Equality(unittest.TestCase):
    def box_with(self, *messages, name="left", kind=("address", "door", "never"), numbers=None):
        box = LiveBox(name, kind, numbers=numbers)
        for source, target in messages:
            box.lend(source, target)
        return box

    def same(self, one, two, expected):
        for left, right in ((one, two), (two, one)):
            self.assertIs(left == right, expected)
            self.assertIs(left != right, not expected)

    def test_equal(self):
        self.same(self.box_with(), self.box_with(), True)
        self.same(self.box_with(*MESSAGES), self.box_with(*MESSAGES), True)
        self.same(self.box_with(*MESSAGES), self.box_with(*MESSAGES, *MESSAGES), True)

    def test_another_order(self):
        one = self.box_with(MESSAGES[0], MESSAGES[1], MESSAGES[3], numbers=Chooser(1, 2))
        two = self.box_with(MESSAGES[3], MESSAGES[1], MESSAGES[0], numbers=Chooser(2, 1))
        self.assertNotEqual(list(one), list(two))
        self.same(one, two, True)

    def test_another_chooser(self):
        self.same(self.box_with(MESSAGES[0]), self.box_with(MESSAGES[0], numbers=lambda many: 1), True)

    def test_another_name_or_kind(self):
        self.same(self.box_with(), self.box_with(name="right"), False)
        for kind in kinds():
            self.same(self.box_with(), self.box_with(kind=kind), kind == ("address", "door", "never"))

    def test_other_doors(self):
        self.same(self.box_with(), self.box_with(MESSAGES[0]), False)
        self.same(self.box_with(MESSAGES[0]), self.box_with(MESSAGES[0], numbers=Chooser(2)), False)

    def test_other_inner_doors(self):
        self.same(self.box_with((("a", 0), ("x", 5))), self.box_with((("b", 0), ("x", 5))), False)

    def test_other_uses(self):
        self.same(self.box_with(MESSAGES[0]), self.box_with(MESSAGES[1]), False)
        self.same(self.box_with(MESSAGES[0]), self.box_with(MESSAGES[0], MESSAGES[1]), False)

    def test_every_value(self):
        box = self.box_with(MESSAGES[0])
        for value in ODD + ("left", ("left", 1), box.doors()):
            self.same(box, value, False)


if __name__ == "__main__":
    unittest.main()
