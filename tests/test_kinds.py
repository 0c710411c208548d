"""Names, doors and kinds of boxes ([0.7], [0.8], [0.10], [1.2])."""

import unittest

from lentdoors.base.kinds import LENDINGS, LETTINGS, TURNINGS, is_as_loose, is_door, is_kind, is_name, kinds
from lentdoors.errors import InvalidKind
from samples import CITY, ODD, OPEN, STRICT

ALL = [
    (lending, letting, turning)
    for lending in ("source", "address", "door")
    for letting in ("any", "address", "door")
    for turning in ("never", "lent", "inner")
]
# How strict a part is, and which turnings are looser than which, as [1.2] says.
RANK = {"source": 0, "any": 0, "address": 1, "door": 2}
TURNS = {
    ("never", "never"), ("lent", "never"), ("inner", "never"), ("lent", "lent"), ("inner", "inner"),
}


def expected_loose(kind, other):
    return RANK[kind[0]] <= RANK[other[0]] and RANK[kind[1]] <= RANK[other[1]] and (kind[2], other[2]) in TURNS


class Words(unittest.TestCase):
    def test_constants(self):
        self.assertEqual(LENDINGS, ("source", "address", "door"))
        self.assertEqual(LETTINGS, ("any", "address", "door"))
        self.assertEqual(TURNINGS, ("never", "lent", "inner"))


class Names(unittest.TestCase):
    def test_names(self):
        for value in ("a", "z", "m", "ab", "abcdefgh", "zzzzzzzz", "open", "aaaaaaaa"):
            self.assertIs(is_name(value), True, value)

    def test_each_letter_is_a_name(self):
        for letter in "abcdefghijklmnopqrstuvwxyz":
            self.assertIs(is_name(letter), True, letter)

    def test_lengths(self):
        for many in range(20):
            self.assertIs(is_name("a" * many), 1 <= many <= 8, many)

    def test_another_character_at_any_place(self):
        for sign in [chr(code) for code in range(32, 127) if not 97 <= code <= 122] + ["\n"]:
            self.assertIs(is_name(sign), False, sign)
            for place in range(8):
                self.assertIs(is_name("a" * place + sign + "b" * (7 - place)), False, (sign, place))

    def test_odd_values(self):
        for value in ODD:
            self.assertIs(is_name(value), False, value)


class Kinds(unittest.TestCase):
    def test_all_kinds(self):
        for kind in ALL:
            self.assertIs(is_kind(kind), True, kind)

    def test_words_of_other_parts(self):
        words = ("source", "address", "door", "any", "never", "lent", "inner", "", "Source", None, 0)
        for one in words:
            for two in words:
                for three in words:
                    self.assertIs(is_kind((one, two, three)), (one, two, three) in ALL, (one, two, three))

    def test_numbers_of_parts(self):
        for kind in ALL:
            self.assertIs(is_kind(kind[:2]), False)
            self.assertIs(is_kind(kind[1:]), False)
            self.assertIs(is_kind(kind + ("never",)), False)
            self.assertIs(is_kind(kind + kind), False)

    def test_lists_are_no_kinds(self):
        for kind in ALL:
            self.assertIs(is_kind(list(kind)), False)
            self.assertIs(is_kind(" ".join(kind)), False)

    def test_odd_values(self):
        for value in ODD:
            self.assertIs(is_kind(value), False, value)
            for place in range(3):
                kind = OPEN[:place] + (value,) + OPEN[place + 1:]
                self.assertIs(is_kind(kind), False, kind)


class Doors(unittest.TestCase):
    def test_doors(self):
        for value in (("a", 0), ("abcdefgh", 1), ("left", 70), ("open", 3), ("z", 10 ** 40 - 1)):
            self.assertIs(is_door(value), True, value)

    def test_numbers(self):
        for number in (-1, -(10 ** 39), True, False, None, "0", (0,), [0]):
            self.assertIs(is_door(("a", number)), False, number)

    def test_names(self):
        for name in ("", "abcdefghi", "A", "a b", None, 0, ("a",), ["a"]):
            self.assertIs(is_door((name, 0)), False, name)

    def test_forms(self):
        for value in (("a",), ("a", 0, 0), (), ["a", 0], {"a": 0}, (0, "a"), "a0", ("a", 0, None)):
            self.assertIs(is_door(value), False, value)

    def test_odd_values(self):
        for value in ODD:
            self.assertIs(is_door(value), False, value)


class Looser(unittest.TestCase):
    def test_all_pairs(self):
        for kind in ALL:
            for other in ALL:
                self.assertIs(is_as_loose(kind, other), expected_loose(kind, other), (kind, other))

    def test_example(self):
        self.assertIs(is_as_loose(OPEN, STRICT), True)
        self.assertIs(is_as_loose(STRICT, OPEN), False)
        self.assertIs(is_as_loose(("source", "any", "lent"), ("source", "any", "inner")), False)
        self.assertIs(is_as_loose(("source", "any", "inner"), ("source", "any", "lent")), False)

    def test_what_is_no_kind(self):
        for value in ODD:
            for arguments in ((value, OPEN), (OPEN, value), (value, value)):
                with self.assertRaises(InvalidKind):
                    is_as_loose(*arguments)


class AllKinds(unittest.TestCase):
    def test_no_bound(self):
        self.assertEqual(list(kinds()), sorted(ALL))
        self.assertEqual(list(kinds(least=None, most=None)), sorted(ALL))
        self.assertEqual(list(kinds(most=None)), sorted(ALL))

    def test_least(self):
        for least in ALL:
            self.assertEqual(list(kinds(least=least)), sorted([kind for kind in ALL if expected_loose(kind, least)]))
            self.assertEqual(list(kinds(least=least)), list(kinds(most=None, least=least)))

    def test_most(self):
        for most in ALL:
            self.assertEqual(list(kinds(most=most)), sorted([kind for kind in ALL if expected_loose(most, kind)]))
            self.assertEqual(list(kinds(most=most)), list(kinds(least=None, most=most)))

    def test_both_bounds_in_both_orders(self):
        for least in ALL:
            for most in ALL:
                found = sorted([
                    kind for kind in ALL if expected_loose(kind, least) and expected_loose(most, kind)
                ])
                self.assertEqual(list(kinds(least=least, most=most)), found, (least, most))
                self.assertEqual(list(kinds(most=most, least=least)), found, (least, most))

    def test_bounds_that_let_nothing_through(self):
        self.assertEqual(list(kinds(least=OPEN, most=STRICT)), [])
        self.assertEqual(list(kinds(least=("door", "door", "lent"), most=("source", "any", "inner"))), [])

    def test_examples(self):
        self.assertEqual(len(list(kinds(least=OPEN))), 6)
        never = tuple(kinds(most=("source", "any", "never")))
        self.assertEqual(never, tuple(sorted([kind for kind in ALL if kind[2] == "never"])))

    def test_the_error_comes_with_the_first_value(self):
        for value in ODD:
            if value is None:
                continue
            for bounds in ({"least": value}, {"most": value}, {"least": value, "most": OPEN},
                           {"least": OPEN, "most": value}, {"least": value, "most": value}):
                found = kinds(**bounds)
                with self.assertRaises(InvalidKind):
                    next(found)

    def test_bounds_are_checked_even_if_nothing_could_come(self):
        with self.assertRaises(InvalidKind):
            list(kinds(least=CITY.kind_of("right"), most=["source", "any", "lent"]))

    def test_bounds_are_passed_by_keyword(self):
        with self.assertRaises(TypeError):
            kinds(OPEN)


if __name__ == "__main__":
    unittest.main()
