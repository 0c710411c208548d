"""The errors ([1.1])."""

import unittest

from lentdoors import errors

PLAIN = (
    "InvalidKind", "InvalidNet", "InvalidDoor", "InvalidTalk", "InvalidChain", "InvalidSort",
    "InvalidTable", "InvalidMap", "InvalidOperation", "InvalidCommand",
)
# The name of each error that keeps something: the class above it, and the attribute.
KEEPING = {
    "ParseError": (errors.DoorError, "line"),
    "UnknownName": (KeyError, "name"),
    "InvalidNumber": (IndexError, "value"),
    "NothingToUndo": (LookupError, "many"),
    "Unheard": (LookupError, "table"),
    "TooMany": (OverflowError, "limit"),
}
NAMES = PLAIN + tuple(KEEPING)


class Bases(unittest.TestCase):
    def test_door_error_is_a_value_error(self):
        self.assertEqual(errors.DoorError.__bases__, (ValueError,))

    def test_plain_errors_are_directly_derived_from_door_error(self):
        for name in PLAIN:
            self.assertEqual(getattr(errors, name).__bases__, (errors.DoorError,), name)

    def test_keeping_errors_are_directly_derived_as_told(self):
        for name, (base, _) in KEEPING.items():
            self.assertEqual(getattr(errors, name).__bases__, (base,), name)

    def test_none_is_derived_from_another_one(self):
        for name in NAMES:
            for other in NAMES:
                if name != other:
                    self.assertFalse(issubclass(getattr(errors, name), getattr(errors, other)), (name, other))

    def test_the_last_five_are_no_door_errors(self):
        for name in NAMES:
            one = getattr(errors, name)
            self.assertEqual(issubclass(one, errors.DoorError), name in PLAIN or name == "ParseError", name)
            self.assertEqual(issubclass(one, ValueError), name in PLAIN or name == "ParseError", name)

    def test_each_is_defined_in_the_module(self):
        for name in NAMES + ("DoorError",):
            self.assertEqual(getattr(errors, name).__module__, "lentdoors.errors", name)


class Contents(unittest.TestCase):
    def test_plain_errors_take_a_message(self):
        for name in PLAIN + ("DoorError",):
            with self.assertRaises(getattr(errors, name)) as caught:
                raise getattr(errors, name)("what is wrong")
            self.assertIn("what is wrong", caught.exception.args, name)

    def test_keeping_errors_keep_what_they_take(self):
        for name, (_, attribute) in KEEPING.items():
            for value in (0, -3, None, "x", ("a", 1), [], {"a": ()}):
                with self.assertRaises(getattr(errors, name)) as caught:
                    raise getattr(errors, name)(value)
                self.assertEqual(getattr(caught.exception, attribute), value, name)
                self.assertEqual(vars(caught.exception), {attribute: value}, name)

    def test_keeping_errors_take_one_value(self):
        for name in KEEPING:
            with self.assertRaises(TypeError):
                getattr(errors, name)()

    def test_a_table_is_copied(self):
        table = {"a": (("a", "open", None),)}
        error = errors.Unheard(table)
        table["b"] = ()
        self.assertEqual(error.table, {"a": (("a", "open", None),)})


if __name__ == "__main__":
    unittest.main()
